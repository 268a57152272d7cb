/- The frame for the laws of layer 12: what the rows' list of variables tells a walk; a world that meets it. -/
import Derived.Test.YtmmomgaijgpmmaaGreatDoorFrame
import Derived.Test.YtmmomgaijgpmmaaGreatDoorIccsD
import Derived.Stop.LaidTwo
namespace Go.Proofs.YtmmomgaijgpmmaaGreatDoor
open Go.ChangeShapes Go.WideShapes Go.ChangeAt Go.RowKit Go.Joins
open M (S)

/-- The rows' list. -/
abbrev laidI : List (String × DataW Unit) := Rows.iccsReadsRow.laid
theorem tab_of12 {W : World} (h : laidMet Tryz.prog laidI W) : Tab W := fun j hj => by
  have h1 : Lib.TabIs Tryz.prog W "math/bits.deBruijn64tab" .u8 (Lib.deBruijn64tab.map fun n : Nat => (n : Int)) :=
    Lib.tabIs_of_head (rest := laidI.tail) gTab gTabType Tryz.underlying147 Tryz.underlying5 cellsByte cellsTab h
  have h2 := h1.cell gTab j (by rw [List.length_map]; exact hj)
  rw [h2]
  congr 2
  cases hq : Lib.deBruijn64tab[j]? <;> simp [hq]
theorem gForm : Tryz.prog.globalNamed "riverbank/iccs.errForm" = some 0 := by kernel_rfl
theorem gFull : Tryz.prog.globalNamed "riverbank/iccs.errFull" = some 1 := by kernel_rfl
theorem gMove : Tryz.prog.globalNamed "riverbank/iccs.errMove" = some 2 := by kernel_rfl
theorem gFormType : (Tryz.prog.globals[0]?).map (·.type) = some 42 := by kernel_rfl
theorem gFullType : (Tryz.prog.globals[1]?).map (·.type) = some 42 := by kernel_rfl
theorem gMoveType : (Tryz.prog.globals[2]?).map (·.type) = some 42 := by kernel_rfl
theorem cellsErr : Tryz.prog.cellsOf 171 = 1 := by kernel_rfl
theorem cellsStr : Tryz.prog.cellsOf 9 = 1 := by kernel_rfl
theorem starErr : "*" ++ "errors.errorString" = "*errors.errorString" := by decide
theorem rowErr (u : TypeId) (h : Tryz.prog.typeName? 3 u = some "*errors.errorString") : u = 148 :=
  typeName_ptr_named (nm := "errors.errorString") (by rw [starErr]; kernel_rfl) (by kernel_rfl) (by decide) u (by rw [starErr]; exact h)
theorem errs_of {W : World} (h : laidMet Tryz.prog laidI W) : ∃ a0 a1 a2, Errs W a0 a1 a2 := by
  have hA := h.tail.tail
  have hB := hA.tail
  obtain ⟨a0, a1, s0, s1, c0, c1, t0, t1, hv0, hv1, hc0, hs0, _, hc1, hs1, _, n01, hb0, hb1⟩ := laid_sentinels2 hA gForm gFormType gFull gFullType Tryz.underlying42 rowErr Tryz.underlying148 Tryz.underlying171 rfl rfl Tryz.underlying9 cellsErr cellsStr
  obtain ⟨b1, a2, r1, s2, d1, c2, u1, t2, hv1', hv2, _, _, _, hc2, hs2, _, n12, _, hb2⟩ := laid_sentinels2 hB gFull gFullType gMove gMoveType Tryz.underlying42 rowErr Tryz.underlying148 Tryz.underlying171 rfl rfl Tryz.underlying9 cellsErr cellsStr
  have e1 : a1 = b1 := by
    have := hv1.symm.trans hv1'
    simpa using this
  subst e1
  refine ⟨a0, a1, a2, by simpa using World.var?_cell gForm hv0 0, by simpa using World.var?_cell gFull hv1 0, by simpa using World.var?_cell gMove hv2 0, n01, ?_, n12, ⟨_, _, hb0⟩, ⟨_, _, hb1⟩, ⟨_, _, hb2⟩⟩
  intro e
  subst e
  have e2 : s0 = s2 := by
    have := hc0.symm.trans hc2
    simpa using this
  rw [e2, hs2] at hs0
  exact absurd hs0 (by decide)

/-- A variable's cells, laid. -/
noncomputable def layI (w : World) (g : Nat) (cs : Array Value) : World := { w with heap := w.heap.modify g fun
      | .cells _ t frozen => .cells cs t frozen
      | o => o }
def cellsAccI : Array Value := #[.int .u8 128, .int .u8 191, .int .u8 160, .int .u8 191, .int .u8 128, .int .u8 159, .int .u8 144, .int .u8 191, .int .u8 128, .int .u8 143, .int .u8 0, .int .u8 0, .int .u8 0, .int .u8 0, .int .u8 0, .int .u8 0, .int .u8 0, .int .u8 0, .int .u8 0, .int .u8 0, .int .u8 0, .int .u8 0, .int .u8 0, .int .u8 0, .int .u8 0, .int .u8 0, .int .u8 0, .int .u8 0, .int .u8 0, .int .u8 0, .int .u8 0, .int .u8 0]
noncomputable def laidWorldI (os : Os) : World :=
  let w0 := (((World.holding Tryz.prog os ⟨#[], #[], []⟩).alloc (.cells #[.string ⟨#[110, 111, 32, 109, 111, 118, 101, 39, 115, 32, 116, 101, 120, 116]⟩] 171)).alloc (.cells #[.string ⟨#[111, 110, 101, 32, 109, 111, 118, 101, 32, 116, 111, 111, 32, 109, 97, 110, 121]⟩] 171)).alloc (.cells #[.string ⟨#[109, 97, 121, 32, 110, 111, 116, 32, 98, 101, 32, 109, 97, 100, 101]⟩] 171)
  let w1 := layI w0 6 (Lib.deBruijn64tab.map fun n : Nat => Value.int .u8 (n : Int)).toArray
  let w2 := layI w1 5 cellsAccI
  let w3 := layI w2 0 #[.iface 148 (.pointer (some ⟨12, 0, none⟩))]
  let w4 := layI w3 1 #[.iface 148 (.pointer (some ⟨13, 0, none⟩))]
  let w5 := layI w4 2 #[.iface 148 (.pointer (some ⟨14, 0, none⟩))]
  layI w5 4 (Go.Pinned.utf8FirstZ.map fun n : Nat => Value.int .u8 (n : Int)).toArray
end Go.Proofs.YtmmomgaijgpmmaaGreatDoor
