/- The frame for the laws of layer 23: what the rows' list of variables tells a walk; a world that meets it. -/
import Derived.Test.YtpogpjebhnoncabGreatDoorFrameG
import Derived.Test.YtpogpjebhnoncabGreatDoorFenE
import Derived.LaidLaws
import Derived.LaidHandle
import Derived.Test.YtpogpjebhnoncabGreatDoorIccsD
import Derived.Stop.LaidTwo
namespace Go.Proofs.YtpogpjebhnoncabGreatDoor
open Go.ChangeShapes Go.WideShapes Go.ChangeAt Go.RowKit Go.Joins
open M (S)

theorem laid_vars {P : Program} {W : World} {n : String} {d : DataW Unit} : ∀ {L : List (String × DataW Unit)} {ps : List MemPlace}, DataW.LaidVars P W L ps → (n, d) ∈ L → ∃ g t cs fuel p, P.globalNamed n = some g ∧ (P.globals[g]?).map (·.type) = some t ∧ W.var? P n = some cs ∧ DataW.trod (fun _ => ()) P W 0 (fun _ => true) false fuel t cs.toList = some (d, p)
  | [], _, _, hm => absurd hm (by simp)
  | (n', d') :: r, ps, h, hm => by
    obtain ⟨g, t, cs, fuel, p, q, h1, h2, h3, h4, h5, _⟩ := h
    rcases List.mem_cons.1 hm with e | hm
    · cases e
      exact ⟨g, t, cs, fuel, p, h1, h2, h3, h4⟩
    · exact laid_vars h5 hm
theorem laid_at {P : Program} {W : World} {L : List (String × DataW Unit)} {n : String} {d : DataW Unit} {g : Nat} {t : TypeId} (h : laidMet P L W) (hm : (n, d) ∈ L) (hg : P.globalNamed n = some g) (ht : (P.globals[g]?).map (·.type) = some t) : ∃ cs fuel p, W.var? P n = some cs ∧ DataW.trod (fun _ => ()) P W 0 (fun _ => true) false fuel t cs.toList = some (d, p) := by
  obtain ⟨ps, hv, _⟩ := h
  obtain ⟨g', t', cs, fuel, p, h1, h2, h3, h4⟩ := laid_vars hv hm
  obtain rfl := Option.some.inj (hg.symm.trans h1)
  obtain rfl := Option.some.inj (ht.symm.trans h2)
  exact ⟨cs, fuel, p, h3, h4⟩
/-- The rows' list; what of it is no handle. -/
abbrev laidL : List (String × DataW Unit) := Rows.lineWordsRow.laid
abbrev laidD : List (String × DataW Unit) := laidL.filter fun x => x.2.handleName?.isNone
theorem laid_split {W : World} (h : laidMetH Tryz.prog laidL W) : laidMet Tryz.prog laidD W ∧ handlesMet Tryz.prog [("errors.errorType", Rows.laid_errors_errorType)] W := h
theorem int_of_shape {P : Program} {w : World} {g : Nat} {t : TypeId} {zero : Array Value} (h : w.ShapedOpen P) (hg : g < P.globals.size)
    (h0 : ((begin P (fun _ _ => 0) default).world.heap[g]?).bind Obj.row? = some (zero, t)) (hz : zero.size = 1)
    (hb : P.buildable t = true) (hc : P.cellTypes P.depth t = some [t]) (hu : P.underlying t = some (.int .i64)) : ∃ m, w.cell? ⟨g, 0, none⟩ = some (.int .i64 m) := by
  obtain ⟨cs, hh, hs, hr⟩ := h.1 g zero t hg h0
  obtain ⟨ts, hts, _, hall⟩ := hr hb
  rw [hc] at hts
  cases hts
  have h1 : 0 < cs.size := by omega
  obtain ⟨u, hu', hok⟩ := hall 0 cs[0] (by simp [h1])
  have : u = t := by simpa using hu'.symm
  subst this
  have hcell : w.cell? ⟨g, 0, none⟩ = some cs[0] := by simp [World.cell?, hh, h1]
  rw [hcell]
  unfold Cell.ok at hok
  rw [hu] at hok
  cases hv : cs[0] <;> rw [hv] at hok <;> first | (simp at hok; done) | skip
  simp at hok
  obtain ⟨rfl, _⟩ := hok
  exact ⟨_, rfl⟩
theorem rtype_is : (Tryz.prog.cutTypes.find? (·.1 == "internal/reflectlite.rtype")).map (·.2) = some 195 := by kernel_rfl
theorem types_size : Tryz.prog.types.size = 242 := by kernel_rfl
theorem error_row : ((List.range 242).filter fun t => Tryz.prog.rowNamed t [101, 114, 114, 111, 114]) = [69] := by kernel_rfl
theorem gErr : Tryz.prog.globalNamed "errors.errorType" = some 9 := by kernel_rfl
theorem handle_of {W : World} (h : handlesMet Tryz.prog [("errors.errorType", Rows.laid_errors_errorType)] W) : W.cell? ⟨9, 0, none⟩ = some (.iface 195 (.agg #[.pointer (some ⟨12, 69, none⟩)])) := by
  obtain ⟨name, u, ty, e1, e2, e3, e4, e5⟩ := h _ (List.mem_singleton.2 rfl)
  have en : name = [101, 114, 114, 111, 114] := (Option.some.inj e1).symm
  subst en
  obtain rfl := Option.some.inj (rtype_is.symm.trans e2)
  have hm : ty ∈ (List.range 242).filter fun t => Tryz.prog.rowNamed t [101, 114, 114, 111, 114] := List.mem_filter.2 ⟨List.mem_range.2 (by rw [← types_size]; exact e3), e4⟩
  rw [error_row] at hm
  obtain rfl := List.mem_singleton.1 hm
  have hh : typeHandle Tryz.prog 69 = .pointer (some ⟨12, 69, none⟩) := by kernel_rfl
  rw [hh] at e5
  simpa using World.var?_cell gErr e5 0
theorem gPowType : (Tryz.prog.globals[8]?).map (·.type) = some 160 := by kernel_rfl
theorem cellsPow : Tryz.prog.cellsOf 160 = 20 := by kernel_rfl
theorem cellsU64 : Tryz.prog.cellsOf 127 = 1 := by kernel_rfl
theorem gSyn : Tryz.prog.globalNamed "strconv.ErrSyntax" = some 1 := by kernel_rfl
theorem gSynType : (Tryz.prog.globals[1]?).map (·.type) = some 69 := by kernel_rfl
theorem gRan : Tryz.prog.globalNamed "strconv.ErrRange" = some 2 := by kernel_rfl
theorem gRanType : (Tryz.prog.globals[2]?).map (·.type) = some 69 := by kernel_rfl
theorem iface_cell {W : World} {n : String} {g : Nat} {s : String} {d D : DataW Unit} (h : laidMet Tryz.prog laidD W) (hm : (n, D) ∈ laidD) (e : D = .iface s d) (hg : Tryz.prog.globalNamed n = some g) (ht : (Tryz.prog.globals[g]?).map (·.type) = some 69) : ∃ te pe, W.cell? ⟨g, 0, none⟩ = some (.iface te pe) := by
  subst e
  obtain ⟨cs, fuel, p, hv, htr⟩ := laid_at h hm hg ht
  obtain ⟨fuel', u, v, hcs, _, _⟩ := iface_of_trod Tryz.underlying69 (by simpa using htr)
  refine ⟨u, v, ?_⟩
  rw [World.var?_cell hg hv 0]
  have : cs = #[.iface u v] := Array.eq_one_of_toList hcs
  rw [this]
  rfl
theorem env_of {W : World} (h : laidMetH Tryz.prog laidL W) (hS : W.ShapedOpen Tryz.prog) : Env W := by
  obtain ⟨hD, hH⟩ := laid_split h
  have m1 : ("strconv.ErrSyntax", Rows.laid_strconv_ErrSyntax) ∈ laidD := List.mem_filter.2 ⟨by simp [laidL, Rows.lineWordsRow], rfl⟩
  have m2 : ("strconv.ErrRange", Rows.laid_strconv_ErrRange) ∈ laidD := List.mem_filter.2 ⟨by simp [laidL, Rows.lineWordsRow], rfl⟩
  have m3 : ("internal/strconv.uint64pow10", Rows.laid_internal_strconv_uint64pow10) ∈ laidD := List.mem_filter.2 ⟨by simp [laidL, Rows.lineWordsRow], rfl⟩
  have e3 : (Rows.laid_internal_strconv_uint64pow10 : DataW Unit) = Lib.tabData .u64 Lib.pow10Tab := rfl
  rw [e3] at m3
  refine ⟨int_of_shape hS (by rw [show Tryz.prog.globals.size = 12 by kernel_rfl]; decide) (zero := #[.int .i64 0]) (t := 3) (by kernel_rfl) rfl (by kernel_rfl) (by kernel_rfl) Tryz.underlying3, ?_, iface_cell hD m1 rfl gSyn gSynType, iface_cell hD m2 rfl gRan gRanType, handle_of hH⟩
  obtain ⟨cs, fuel, p, hv, htr⟩ := laid_at hD m3 gPow gPowType
  unfold Lib.TabIs
  rw [hv, ← Lib.cells_of_tab Tryz.underlying160 Tryz.underlying127 cellsU64 cellsPow htr]
theorem gForm : Tryz.prog.globalNamed "riverbank/iccs.errForm" = some 3 := by kernel_rfl
theorem gFull : Tryz.prog.globalNamed "riverbank/iccs.errFull" = some 4 := by kernel_rfl
theorem gMove : Tryz.prog.globalNamed "riverbank/iccs.errMove" = some 5 := by kernel_rfl
theorem gFormType : (Tryz.prog.globals[3]?).map (·.type) = some 69 := by kernel_rfl
theorem gFullType : (Tryz.prog.globals[4]?).map (·.type) = some 69 := by kernel_rfl
theorem gMoveType : (Tryz.prog.globals[5]?).map (·.type) = some 69 := by kernel_rfl
theorem cellsErr : Tryz.prog.cellsOf 167 = 1 := by kernel_rfl
theorem cellsStr : Tryz.prog.cellsOf 9 = 1 := by kernel_rfl
theorem starErr : "*" ++ "errors.errorString" = "*errors.errorString" := by decide
theorem rowErr (u : TypeId) (h : Tryz.prog.typeName? 3 u = some "*errors.errorString") : u = 165 :=
  typeName_ptr_named (nm := "errors.errorString") (by rw [starErr]; kernel_rfl) (by kernel_rfl) (by decide) u (by rw [starErr]; exact h)
theorem errs_of {W : World} (hH : laidMetH Tryz.prog laidL W) : ∃ a0 a1 a2, Errs W a0 a1 a2 := by
  have h : laidMet Tryz.prog laidD W := (laid_split hH).1
  have hA := h.tail.tail.tail.tail.tail.tail
  have hB := hA.tail
  obtain ⟨a0, a1, s0, s1, c0, c1, t0, t1, hv0, hv1, hc0, hs0, _, hc1, hs1, _, n01, hb0, hb1⟩ := laid_sentinels2 hA gForm gFormType gFull gFullType Tryz.underlying69 rowErr Tryz.underlying165 Tryz.underlying167 rfl rfl Tryz.underlying9 cellsErr cellsStr
  obtain ⟨b1, a2, r1, s2, d1, c2, u1, t2, hv1', hv2, _, _, _, hc2, hs2, _, n12, _, hb2⟩ := laid_sentinels2 hB gFull gFullType gMove gMoveType Tryz.underlying69 rowErr Tryz.underlying165 Tryz.underlying167 rfl rfl Tryz.underlying9 cellsErr cellsStr
  have e1 : a1 = b1 := by
    have := hv1.symm.trans hv1'
    simpa using this
  subst e1
  refine ⟨a0, a1, a2, by simpa using World.var?_cell gForm hv0 0, by simpa using World.var?_cell gFull hv1 0, by simpa using World.var?_cell gMove hv2 0, n01, ?_, n12, ⟨_, _, hb0⟩, ⟨_, _, hb1⟩, ⟨_, _, hb2⟩⟩
  intro e
  subst e
  have e2 : s0 = s2 := by
    have := hc0.symm.trans hc2
    simpa using this
  rw [e2, hs2] at hs0
  exact absurd hs0 (by decide)

/-- A variable's cells, laid. -/
noncomputable def layAt (w : World) (g : Nat) (cs : Array Value) : World := { w with heap := w.heap.modify g fun
      | .cells _ t frozen => .cells cs t frozen
      | o => o }
noncomputable def baseWorld (os : Os) : World := World.holding Tryz.prog os ⟨#[], #[], []⟩
def cells32 : Array Value := #[.int .u8 0, .int .u8 1, .int .u8 28, .int .u8 2, .int .u8 29, .int .u8 14, .int .u8 24, .int .u8 3, .int .u8 30, .int .u8 22, .int .u8 20, .int .u8 15, .int .u8 25, .int .u8 17, .int .u8 4, .int .u8 8, .int .u8 31, .int .u8 27, .int .u8 13, .int .u8 23, .int .u8 21, .int .u8 19, .int .u8 16, .int .u8 7, .int .u8 26, .int .u8 12, .int .u8 18, .int .u8 6, .int .u8 11, .int .u8 5, .int .u8 10, .int .u8 9]
def cellsAcc : Array Value := #[.int .u8 128, .int .u8 191, .int .u8 160, .int .u8 191, .int .u8 128, .int .u8 159, .int .u8 144, .int .u8 191, .int .u8 128, .int .u8 143, .int .u8 0, .int .u8 0, .int .u8 0, .int .u8 0, .int .u8 0, .int .u8 0, .int .u8 0, .int .u8 0, .int .u8 0, .int .u8 0, .int .u8 0, .int .u8 0, .int .u8 0, .int .u8 0, .int .u8 0, .int .u8 0, .int .u8 0, .int .u8 0, .int .u8 0, .int .u8 0, .int .u8 0, .int .u8 0]
noncomputable def laidWorldY (os : Os) : World :=
  let w00 := ((baseWorld os).alloc (.cells #[.string ⟨#[118, 97, 108, 117, 101, 32, 111, 117, 116, 32, 111, 102, 32, 114, 97, 110, 103, 101]⟩] 167)).alloc (.cells #[.string ⟨#[105, 110, 118, 97, 108, 105, 100, 32, 115, 121, 110, 116, 97, 120]⟩] 167)
  let w0 := ((w00.alloc (.cells #[.string ⟨#[110, 111, 32, 109, 111, 118, 101, 39, 115, 32, 116, 101, 120, 116]⟩] 167)).alloc (.cells #[.string ⟨#[111, 110, 101, 32, 109, 111, 118, 101, 32, 116, 111, 111, 32, 109, 97, 110, 121]⟩] 167)).alloc (.cells #[.string ⟨#[109, 97, 121, 32, 110, 111, 116, 32, 98, 101, 32, 109, 97, 100, 101]⟩] 167)
  let w1 := layAt w0 10 cells32
  let w2 := layAt w1 11 (Lib.deBruijn64tab.map fun n : Nat => Value.int .u8 (n : Int)).toArray
  let w3 := layAt w2 8 (Lib.pow10Tab.map fun n : Int => Value.int .u64 n).toArray
  let w4 := layAt w3 7 cellsAcc
  let w5 := layAt w4 9 #[.iface 195 (.agg #[.pointer (some ⟨12, 69, none⟩)])]
  let w6 := layAt w5 2 #[.iface 165 (.pointer (some ⟨17, 0, none⟩))]
  let w7 := layAt w6 1 #[.iface 165 (.pointer (some ⟨18, 0, none⟩))]
  let w8 := layAt w7 3 #[.iface 165 (.pointer (some ⟨19, 0, none⟩))]
  let w9 := layAt w8 4 #[.iface 165 (.pointer (some ⟨20, 0, none⟩))]
  let w10 := layAt w9 5 #[.iface 165 (.pointer (some ⟨21, 0, none⟩))]
  layAt w10 6 (Go.Pinned.utf8FirstZ.map fun n : Nat => Value.int .u8 (n : Int)).toArray
end Go.Proofs.YtpogpjebhnoncabGreatDoor
