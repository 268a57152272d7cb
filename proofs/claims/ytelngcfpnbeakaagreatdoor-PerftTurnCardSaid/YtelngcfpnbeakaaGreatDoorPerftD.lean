/- perft.counter lays four blocks: a cell with the game, an empty map, cells with the map and with the closure. The map's keys. -/
import Derived.Test.YtelngcfpnbeakaaGreatDoorBase
import Derived.Maps.OwnSet
import Derived.Maps.OwnOps
import Derived.Maps.Views
import Derived.DeepKeys4
import Derived.RangeFuncBox
namespace Go.Proofs.YtelngcfpnbeakaaGreatDoor
open Go.RowKit Go.Shelf
open Go.Maps
open M (S)

theorem node_under : Tryz.prog.underlying 68 = some (.struct #[⟨"cells", 9, 0, false, "", "riverbank/perft", 0⟩, ⟨"depth", 3, 1, false, "", "riverbank/perft", 16⟩]) := by kernel_rfl
theorem key_pair {P : Program} {k : TypeId} {f g : Field} {s : ByteArray} {d : Int} (hk : P.underlying k = some (.struct #[f, g])) (ha : P.underlying f.type = some .string) (hb : P.underlying g.type = some (.int .i64)) (of : f.offset = 0) (og : g.offset = 1) (nf : (f.name != "_") = true) (ng : (g.name != "_") = true)
    (ck : P.cellsOf k = 2) (cf : P.cellsOf f.type = 1) (cg : P.cellsOf g.type = 1) (hkt : P.keyType k = true) (hf : (Value.agg #[.string s, .int .i64 d]).formed P k = true) (hs : s.size ≤ maxLen) (hd : (Lit.int .i64 d).wf = true) {m : Nat} (hm : P.types.size = m + 1) :
    keyOf P k (.agg #[.string s, .int .i64 d]) = some (.string (keyBytes [.string s.data.toList, .int .i64 d])) := by
  unfold keyOf
  rw [hk]
  simp only [hkt, hf, Bool.and_self, if_true, hm]
  have h1 : P.keyLits (m + 1) f.type [.string s] = some [.string s.data.toList] := by
    unfold Program.keyLits
    simp only [ha]
    rw [if_pos hs]
  have h2 : P.keyLits (m + 1) g.type [.int .i64 d] = some [.int .i64 d] := by
    unfold Program.keyLits
    simp only [hb]
    rw [if_pos ⟨trivial, hd⟩]
  have h3 : P.keyLits (m + 1 + 1) k [.string s, .int .i64 d] = some [.string s.data.toList, .int .i64 d] := by
    unfold Program.keyLits
    simp only [hk]
    rw [if_pos ⟨by rw [ck]; rfl, by simp [nf, ng]⟩]
    simp only [List.mapM_cons, List.mapM_nil, of, og, cf, cg]
    simp only [List.drop_zero, List.take_succ_cons, List.take_zero, List.drop_succ_cons, h1, h2]
    rfl
  show Option.map _ (P.keyLits (m + 1 + 1) k [.string s, .int .i64 d]) = _
  rw [h3]
  rfl
theorem node_laid : laidOutB Tryz.prog = true := by kernel_rfl
theorem node_size : Tryz.prog.types.size = 148 := by kernel_rfl
theorem node_law : Keyed Tryz.prog 68 := Keyed.of_law (deep_law_laid node_laid (m := 2) (by decide) (k := 68) (by rw [node_size]; decide) (by kernel_rfl) (by rw [node_under]))
/-- What a node reads as. -/
def nodeL (s : ByteArray) (d : Int) : Lit := .string (keyBytes [.string s.data.toList, .int .i64 d])
theorem node_key {s : ByteArray} {d : Int} (hs : s.size ≤ maxLen) (hd : (Lit.int .i64 d).wf = true) : keyOf Tryz.prog 68 (.agg #[.string s, .int .i64 d]) = some (nodeL s d) :=
  key_pair node_under (by kernel_rfl) (by kernel_rfl) rfl rfl rfl rfl (by kernel_rfl) (by kernel_rfl) (by kernel_rfl) (by kernel_rfl) (by
    unfold Value.formed
    rw [node_under]
    show (#[Value.string s, Value.int .i64 d].size == _) = true
    rw [show Tryz.prog.cellsOf 68 = 2 by kernel_rfl]
    rfl) hs hd (m := 148 - 1) (by rw [node_size])
theorem node_inj {s t : ByteArray} {d e : Int} (hs : s.size ≤ maxLen) (ht : t.size ≤ maxLen) (hd : (Lit.int .i64 d).wf = true) (he : (Lit.int .i64 e).wf = true) (h : nodeL s d = nodeL t e) : s = t ∧ d = e := by
  have h1 := node_key hs hd
  rw [h] at h1
  have h2 := node_law.inj h1 (node_key ht he)
  injection h2 with h3
  have h4 := congrArg Array.toList h3
  simp only [List.cons.injEq, Value.string.injEq, Value.int.injEq, and_true, true_and] at h4
  exact h4
/-- The closure of a counter whose blocks begin at H. -/
def closV (H : Nat) : Value := .func (.func 34) #[] #[.pointer (some ⟨H, 0, none⟩), .pointer (some ⟨H + 1 + 1, 0, none⟩), .pointer (some ⟨H + 1 + 1 + 1, 0, none⟩)]
/-- How a counter's blocks lie: game g; the map reads as D, of at most n entries. -/
structure CntAt (H g n : Nat) (D : DataW Unit) (W : World) : Prop where
  game : Blk W H 40 #[.pointer (some ⟨g, 0, none⟩)]
  cell : Blk W (H + 1 + 1) 64 #[.map (some (H + 1))]
  self : Blk W (H + 1 + 1 + 1) 49 #[closV H]
  map : W.ownsMap Tryz.prog 68 (plainElem Tryz.prog 3) (H + 1) n D
set_option maxHeartbeats 2000000 in
theorem counter_is (g : Nat) (w : World) : Calls Tryz.prog 20 #[.pointer (some ⟨g, 0, none⟩)] w fun e w' => e = .returned (closV w.heap.size) ∧ CntAt w.heap.size g 0 (.map []) w' ∧ Below w.heap.size w w' := by
  have hmm := @run_makeMap Tryz.prog
  have hmf : ∀ fn first cap w, (Instr.makeFunc fn first cap).run Tryz.prog w = .ok (.func fn first cap) w := fun _ _ _ _ => rfl
  obtain ⟨W, hW⟩ : ∃ W, (((w.alloc (.cells #[.pointer (some ⟨g, 0, none⟩)] 40)).alloc (.map #[] 0)).alloc (.cells #[.map (some (w.heap.size + 1))] 64)).alloc (.cells #[.nilFunc] 49) = W := ⟨_, rfl⟩
  have b0 : Blk W w.heap.size 40 #[.pointer (some ⟨g, 0, none⟩)] := by
    rw [← hW]
    exact (((Blk.new w _ _ rfl).alloc _).alloc _).alloc _
  have b1 : W.ownsMap Tryz.prog 68 (plainElem (H := Unit) Tryz.prog 3) (w.heap.size + 1) 0 (.map []) := by
    rw [← hW]
    have h := World.ownsMap_made (w.alloc (.cells #[.pointer (some ⟨g, 0, none⟩)] 40)) Tryz.prog 68 (plainElem (H := Unit) Tryz.prog 3)
    rw [show (w.alloc (.cells #[.pointer (some ⟨g, 0, none⟩)] 40)).heap.size = w.heap.size + 1 by simp] at h
    exact (h.alloc _).alloc _
  have b2 : Blk W (w.heap.size + 1 + 1) 64 #[.map (some (w.heap.size + 1))] := by
    rw [← hW]
    exact (Blk.new _ _ _ (by simp)).alloc _
  have b3 : Blk W (w.heap.size + 1 + 1 + 1) 49 #[.nilFunc] := by
    rw [← hW]
    exact Blk.new _ _ _ (by simp)
  have hB : Below w.heap.size w W := by
    rw [← hW]
    exact ((((Below.refl _ _).alloc (Nat.le_refl _) _).alloc (by simp) _).alloc (by simp; omega) _).alloc (by simp; omega) _
  have c3 : W.cell? ⟨w.heap.size + 1 + 1 + 1, 0, none⟩ = some .nilFunc := b3.cell 0
  have f3 : W.frozen? ⟨w.heap.size + 1 + 1 + 1, 0, none⟩ = false := b3.frozen 0
  have hst : (store ⟨w.heap.size + 1 + 1 + 1, 0, none⟩ (closV w.heap.size)).run Tryz.prog W = .ok () (W.setCell ⟨w.heap.size + 1 + 1 + 1, 0, none⟩ (closV w.heap.size)) := by
    refine (run_store Tryz.prog W _ _ _ rfl).trans ?_
    simp [go_sem, c3, f3]
  unfold closV at hst
  have HW := Lib.hid hW
  clear hW
  go_enter Tryz.func20, Tryz.ntmps20
  go_wp2_with fail
  rw [HW.out, hst]
  go_wp2
  go_ret
  refine ⟨rfl, ⟨b0.far (by first | (simp; done) | (simp; omega)) _, b2.far (by first | (simp; done) | (simp; omega)) _, b3.set_ 0 _, b1.kept (grownBy_setCell' W _ _) (by first | (simp; done) | (simp; omega))⟩, ?_⟩
  exact hB.trans ((Below.refl _ _).setCell (by simp; omega) _)
end Go.Proofs.YtelngcfpnbeakaaGreatDoor
