/- An error's number, however it is wrapped: errors.As. -/
import Derived.Test.YtpogpjebhnoncabGreatDoorFenQ6
import Derived.WalkKit
import Derived.LaidEql
import Derived.Stop.Asserts
import Derived.RowKitTokens
namespace Go.Proofs.YtpogpjebhnoncabGreatDoor
open Go.RowKit Go.Shelf Go.Extern.Stop Go.Stop Go.Extern
open M (S)

/-- Closed facts on the model's entries for internal/reflectlite, at this program's types. -/
theorem qValueOfP (t : Addr) (w : World) : (ReflectliteValue.unpack (.iface 154 (.pointer (some t)))).run Tryz.prog w
    = .ok (.agg #[.pointer (some ⟨12, 154, none⟩), .pointer (some ⟨w.heap.size, 0, none⟩), .int .u64 150]) (w.alloc (.cells #[.pointer (some t)] 154)) := by kernel_rfl
theorem qTypeP (a : Addr) (w : World) : (ReflectliteValue.methodAny (ReflectliteValue.valueError "reflectlite.Value.Type" 0) (fun t _ _ _ => ReflectliteType.toType t) #[.agg #[.pointer (some ⟨12, 154, none⟩), .pointer (some a), .int .u64 150]]).run Tryz.prog w
    = .ok (.iface 195 (.agg #[.pointer (some ⟨12, 154, none⟩)])) w := by kernel_rfl
theorem qMethodKind (h : Value) (w : World) : (Go.method 342 195 (.agg #[h]) "Kind").run Tryz.prog w = .ok (189, h) w := by kernel_rfl
theorem qKindP (w : World) : ((ReflectliteType.abiMethod fun t => (fun a : Nat => Value.int IntKind.u8 (a : Int)) <$> Rtype.kind t) #[.pointer (some ⟨12, 154, none⟩)]).run Tryz.prog w = .ok (.int .u8 22) w := by kernel_rfl
theorem qKindS (w : World) : ((ReflectliteType.abiMethod fun t => (fun a : Nat => Value.int IntKind.u8 (a : Int)) <$> Rtype.kind t) #[.pointer (some ⟨12, 151, none⟩)]).run Tryz.prog w = .ok (.int .u8 25) w := by kernel_rfl
theorem qPartsP (a : Addr) (w : World) : (ReflectliteValue.parts (.agg #[.pointer (some ⟨12, 154, none⟩), .pointer (some a), .int .u64 150])).run Tryz.prog w = .ok (some (154, a, 150)) w := by kernel_rfl
theorem qIsNil (a p : Addr) (W : World) (ha : W.cell? a = some (.pointer (some p))) :
    (ReflectliteValue.method (ReflectliteValue.valueError "reflectlite.Value.IsNil" 0) ReflectliteValue.isNil #[.agg #[.pointer (some ⟨12, 154, none⟩), .pointer (some a), .int .u64 150]]).run Tryz.prog W = .ok (.bool false) W := by
  show Sem.run _ (ReflectliteValue.parts (.agg #[.pointer (some ⟨12, 154, none⟩), .pointer (some a), .int .u64 150]) >>= _) _ = _
  simp only [Sem.run_bind, qPartsP, Result.andThen]
  simp [ReflectliteValue.isNil, loadVar, isAgg, underlying, Tryz.underlying154, ha, Result.andThen]
theorem qMethodElem (h : Value) (w : World) : (Go.method 342 195 (.agg #[h]) "Elem").run Tryz.prog w = .ok (208, .agg #[h]) w := by kernel_rfl
theorem qMethodImplements (h : Value) (w : World) : (Go.method 342 195 (.agg #[h]) "Implements").run Tryz.prog w = .ok (209, .agg #[h]) w := by kernel_rfl
theorem qMethodAssignableTo (h : Value) (w : World) : (Go.method 342 195 (.agg #[h]) "AssignableTo").run Tryz.prog w = .ok (206, .agg #[h]) w := by kernel_rfl
theorem qElemP (w : World) : (ReflectliteType.method ReflectliteType.elem #[.agg #[.pointer (some ⟨12, 154, none⟩)]]).run Tryz.prog w = .ok (.iface 195 (.agg #[.pointer (some ⟨12, 151, none⟩)])) w := by kernel_rfl
theorem qImplements (w : World) : (ReflectliteType.relation "Implements" ReflectliteType.implements_ #[.agg #[.pointer (some ⟨12, 151, none⟩)], .iface 195 (.agg #[.pointer (some ⟨12, 69, none⟩)])]).run Tryz.prog w = .ok (.bool true) w := by kernel_rfl
theorem qTypeOfS (v : Value) (w : World) : (ReflectliteType.typeOf #[.iface 151 v]).run Tryz.prog w = .ok (.iface 195 (.agg #[.pointer (some ⟨12, 151, none⟩)])) w := by kernel_rfl
theorem qTypeOfF (v : Value) (w : World) : (ReflectliteType.typeOf #[.iface 147 v]).run Tryz.prog w = .ok (.iface 195 (.agg #[.pointer (some ⟨12, 147, none⟩)])) w := by kernel_rfl
theorem qAssignS (w : World) : (ReflectliteType.relation "AssignableTo" ReflectliteType.assignableTo #[.agg #[.pointer (some ⟨12, 151, none⟩)], .iface 195 (.agg #[.pointer (some ⟨12, 151, none⟩)])]).run Tryz.prog w = .ok (.bool true) w := by kernel_rfl
theorem qAssignF (w : World) : (ReflectliteType.relation "AssignableTo" ReflectliteType.assignableTo #[.agg #[.pointer (some ⟨12, 147, none⟩)], .iface 195 (.agg #[.pointer (some ⟨12, 151, none⟩)])]).run Tryz.prog w = .ok (.bool false) w := by kernel_rfl
theorem qValueOfS (k : Int) (w : World) : (ReflectliteValue.unpack (.iface 151 (.agg #[.int .i64 k]))).run Tryz.prog w
    = .ok (.agg #[.pointer (some ⟨12, 151, none⟩), .pointer (some ⟨w.heap.size, 0, none⟩), .int .u64 153]) (w.alloc (.cells #[.int .i64 k] 151)) := by kernel_rfl
theorem qElemOf (w : World) : (Rtype.elem? 154).run Tryz.prog w = .ok (some 151) w := by kernel_rfl
theorem qMk (p : Addr) (w : World) : (ReflectliteValue.mk 151 p ReflectliteValue.flagAddr).run Tryz.prog w = .ok (.agg #[.pointer (some ⟨12, 151, none⟩), .pointer (some p), .int .u64 409]) w := by kernel_rfl
theorem qElemV (a p : Addr) (W : World) (ha : W.cell? a = some (.pointer (some p))) :
    (ReflectliteValue.method (ReflectliteValue.valueError "reflectlite.Value.Elem" 0) ReflectliteValue.elem #[.agg #[.pointer (some ⟨12, 154, none⟩), .pointer (some a), .int .u64 150]]).run Tryz.prog W
      = .ok (.agg #[.pointer (some ⟨12, 151, none⟩), .pointer (some p), .int .u64 409]) W := by
  show Sem.run _ (ReflectliteValue.parts (.agg #[.pointer (some ⟨12, 154, none⟩), .pointer (some a), .int .u64 150]) >>= _) _ = _
  simp only [Sem.run_bind, qPartsP, Result.andThen]
  simp [ReflectliteValue.elem, loadVar, isAgg, underlying, Tryz.underlying154, ha, Result.andThen, qElemOf, qMk]
theorem qPartsA (a : Addr) (w : World) : (ReflectliteValue.parts (.agg #[.pointer (some ⟨12, 151, none⟩), .pointer (some a), .int .u64 409])).run Tryz.prog w = .ok (some (151, a, 409)) w := by kernel_rfl
theorem qPartsS (a : Addr) (w : World) : (ReflectliteValue.parts (.agg #[.pointer (some ⟨12, 151, none⟩), .pointer (some a), .int .u64 153])).run Tryz.prog w = .ok (some (151, a, 153)) w := by kernel_rfl
theorem qDirect (w : World) : (Rtype.directlyAssignable 151 151).run Tryz.prog w = .ok true w := by kernel_rfl
theorem qSize (w : World) : (sizeOf 151).run Tryz.prog w = .ok 1 w := by kernel_rfl
theorem qAgg (w : World) : (isAgg 151).run Tryz.prog w = .ok true w := by kernel_rfl
theorem qLoad (b : Addr) (k : Int) (W : World) (hb : W.cell? b = some (.int .i64 k)) : (loadVar 151 b).run Tryz.prog W = .ok (.agg #[.int .i64 k]) W := by
  have hb' : W.cell? (b.add 0) = some (.int .i64 k) := by rw [← hb]; congr 1
  rw [loadVar]
  simp only [Sem.run_bind, qAgg, Result.andThen, ↓reduceIte, qSize]
  simp [loadCells, loadCellsFrom, Addr.add, hb, Result.andThen]
theorem qStore (ta : Addr) (k : Int) (old : Value) (W : World) (ht : W.cell? ta = some old) (hf : W.frozen? ta = false) : (storeVar 151 ta (.agg #[.int .i64 k])).run Tryz.prog W = .ok () (W.setCell ta (.int .i64 k)) := by
  rw [storeVar]
  simp only [Sem.run_bind, qSize, Result.andThen]
  simp [Value.cells, storeCells, Addr.add]
  rw [run_store Tryz.prog W ta _ _ (by rfl)]
  simp [ht, hf]
theorem qSet (ta b : Addr) (k : Int) (old : Value) (W : World) (hb : W.cell? b = some (.int .i64 k)) (ht : W.cell? ta = some old) (hf : W.frozen? ta = false) :
    (ReflectliteValue.set #[.agg #[.pointer (some ⟨12, 151, none⟩), .pointer (some ta), .int .u64 409], .agg #[.pointer (some ⟨12, 151, none⟩), .pointer (some b), .int .u64 153]]).run Tryz.prog W
      = .ok (.tuple #[]) (W.setCell ta (.int .i64 k)) := by
  show Sem.run _ (ReflectliteValue.parts (.agg #[.pointer (some ⟨12, 151, none⟩), .pointer (some ta), .int .u64 409]) >>= _) _ = _
  simp only [Sem.run_bind, qPartsA, Result.andThen, Array.getLit]
  simp [qPartsS, ReflectliteValue.flagAddr, qLoad b k W hb, Result.andThen, qDirect, qStore ta k old W ht hf]
theorem err_two {k : Int} {u : Value} (h : Err k 2 u) : u = .iface 151 (.agg #[.int .i64 k]) ∨ (∃ p, u = .iface 147 (.agg #[.string p, .iface 151 (.agg #[.int .i64 k])])) ∨ (∃ p q, u = .iface 147 (.agg #[.string p, .iface 147 (.agg #[.string q, .iface 151 (.agg #[.int .i64 k])])])) := by
  rcases h with (h | ⟨p, x, rfl, h⟩) | ⟨p, x, rfl, h | ⟨q, y, rfl, h⟩⟩
  · exact .inl h
  · obtain rfl : x = _ := h
    exact .inr (.inl ⟨p, rfl⟩)
  · obtain rfl : x = _ := h
    exact .inr (.inl ⟨p, rfl⟩)
  · obtain rfl : y = _ := h
    exact .inr (.inr ⟨p, q, rfl⟩)
/-- What errors.as leaves: its target is set. -/
def GivesS (w : World) (t : Addr) (k : Int) : Ending → World → Prop := fun e w' => e = .returned (.bool true) ∧ w'.cell? t = some (.int .i64 k) ∧ ∀ B, B ≤ t.block → B ≤ w.heap.size → Below B w w'
theorem qUnwrap (v : Value) (w : World) : (Go.method 342 147 v "Unwrap").run Tryz.prog w = .ok (199, v) w := by kernel_rfl
set_option maxHeartbeats 1000000 in
theorem unwrap_any (p : ByteArray) (u : Value) (w : World) : Calls Tryz.prog 199 #[.agg #[.string p, u]] w fun e w' => e = .returned u ∧ w' = w.alloc (.cells #[.string p, u] 147) := by
  go_enter Tryz.func199, Tryz.ntmps199
  go_wp2
  go_ret
  exact ⟨rfl, rfl⟩
/-- What errors.as meets: the target's own pointer, the target. -/
structure AsSt (w : World) (a t : Addr) (old : Value) : Prop where
  ha : w.cell? a = some (.pointer (some t))
  ht : w.cell? t = some old
  hf : w.frozen? t = false
theorem AsSt.alloc {w : World} {a t : Addr} {old : Value} (h : AsSt w a t old) (o : Obj) : AsSt (w.alloc o) a t old := by
  have h1 := cell_lt h.ha
  have h2 := cell_lt h.ht
  exact ⟨by rw [World.cell?_alloc_lt _ _ a h1]; exact h.ha, by rw [World.cell?_alloc_lt _ _ t h2]; exact h.ht, by rw [World.frozen?_alloc_old _ _ t (Nat.ne_of_lt h2)]; exact h.hf⟩
theorem AsSt.set {w : World} {a t : Addr} {old : Value} (h : AsSt w a t old) (k : Int) : (ReflectliteValue.set #[.agg #[.pointer (some ⟨12, 151, none⟩), .pointer (some t), .int .u64 409], .agg #[.pointer (some ⟨12, 151, none⟩), .pointer (some ⟨w.heap.size, 0, none⟩), .int .u64 153]]).run Tryz.prog (w.alloc (.cells #[.int .i64 k] 151))
      = .ok (.tuple #[]) ((w.alloc (.cells #[.int .i64 k] 151)).setCell t (.int .i64 k)) :=
  qSet t ⟨w.heap.size, 0, none⟩ k old _ (by rw [World.cell?_alloc_at _ _ _ _ (by simp)]; rfl) (h.alloc _).ht (h.alloc _).hf
theorem as_ends {w w0 : World} {a t : Addr} {k : Int} {old : Value} (h : AsSt w a t old) (hb : ∀ B, B ≤ w0.heap.size → Below B w0 w) : GivesS w0 t k (.returned (.bool true)) ((w.alloc (.cells #[.int .i64 k] 151)).setCell t (.int .i64 k)) := by
  refine ⟨rfl, World.cell?_setCell_same _ _ _ (h.alloc _).ht, fun B h1 h2 => ?_⟩
  have h3 := hb B h2
  exact (h3.alloc (Nat.le_trans h2 h3.size) _).setCell h1 _
theorem qNoAs (v : Value) (x : TypeId) (w : World) : (Instr.typeAssert (.iface 147 v) x 208 true).run Tryz.prog w = .ok (.tuple #[.nilIface, .bool false]) w := run_typeAssert_lacksB Tryz.underlying208 (by kernel_rfl) (by kernel_rfl) v x w
theorem qHasUnwrap (v : Value) (x : TypeId) (w : World) : (Instr.typeAssert (.iface 147 v) x 200 true).run Tryz.prog w = .ok (.tuple #[.iface 147 v, .bool true]) w := run_typeAssert_hasB Tryz.underlying200 (by kernel_rfl) v x w
set_option maxRecDepth 100000 in
set_option maxHeartbeats 4000000 in
theorem as_any (k : Int) (u : Value) (t a : Addr) (old : Value) (w : World) (h : Err k 2 u) (hS : AsSt w a t old) :
    Calls Tryz.prog 153 #[u, .iface 154 (.pointer (some t)), .agg #[.pointer (some ⟨12, 154, none⟩), .pointer (some a), .int .u64 150], .iface 195 (.agg #[.pointer (some ⟨12, 151, none⟩)])] w (GivesS w t k) := by
  have h1 := @run_callFunc_extern Tryz.prog 146 _ ReflectliteType.typeOf Tryz.func146 (by kernel_rfl) (by kernel_rfl) (by kernel_rfl) (by kernel_rfl)
  have h2 := @run_callFunc_extern Tryz.prog 206 _ (ReflectliteType.relation "AssignableTo" ReflectliteType.assignableTo) Tryz.func206 (by kernel_rfl) (by kernel_rfl) (by kernel_rfl) (by kernel_rfl)
  have h3 := @run_callFunc_extern Tryz.prog 164 _ (ReflectliteValue.method (ReflectliteValue.valueError "reflectlite.Value.Elem" 0) ReflectliteValue.elem) Tryz.func164 (by kernel_rfl) (by kernel_rfl) (by kernel_rfl) (by kernel_rfl)
  have h4 := @run_callFunc_extern Tryz.prog 165 _ ReflectliteValue.set Tryz.func165 (by kernel_rfl) (by kernel_rfl) (by kernel_rfl) (by kernel_rfl)
  have h5 := @run_callFunc_extern Tryz.prog 150 _ (fun args => ReflectliteValue.unpack (args.getD 0 (.tuple #[]))) Tryz.func150 (by kernel_rfl) (by kernel_rfl) (by kernel_rfl) (by kernel_rfl)
  have f1 := qTypeOfS
  have f2 := qTypeOfF
  have f3 := qMethodAssignableTo
  have f4 := qAssignS
  have f5 := qAssignF
  have f6 := qValueOfS
  have f7 := qUnwrap
  have f8 := qNoAs
  have f9 := qHasUnwrap
  obtain ⟨V, hV⟩ : ∃ V, w.alloc (.cells #[.pointer (some ⟨12, 154, none⟩), .pointer (some a), .int .u64 150] 174) = V := ⟨_, rfl⟩
  have hSV := hS.alloc (.cells #[.pointer (some ⟨12, 154, none⟩), .pointer (some a), .int .u64 150] 174)
  rw [hV] at hSV
  have hBV : ∀ B, B ≤ w.heap.size → Below B w V := fun B hB => by rw [← hV]; exact (Below.refl _ _).alloc hB _
  have bV : Blk V w.heap.size 174 #[.pointer (some ⟨12, 154, none⟩), .pointer (some a), .int .u64 150] := by rw [← hV]; exact Blk.new _ _ _ rfl
  have HV := Lib.hid hV
  clear hS hV
  have cells : ∀ W, Blk W w.heap.size 174 #[.pointer (some ⟨12, 154, none⟩), .pointer (some a), .int .u64 150] → W.cell? ⟨w.heap.size, 0, none⟩ = some (.pointer (some ⟨12, 154, none⟩)) ∧ W.cell? ⟨w.heap.size, 1, none⟩ = some (.pointer (some a)) ∧ W.cell? ⟨w.heap.size, 2, none⟩ = some (.int .u64 150) := fun W b => ⟨(b.cell 0).trans rfl, (b.cell 1).trans rfl, (b.cell 2).trans rfl⟩
  rcases err_two h with rfl | ⟨p, rfl⟩ | ⟨p, q, rfl⟩
  · have el := qElemV a t V hSV.ha
    have st := hSV.set k
    have HE := Lib.hid (as_ends (w0 := w) (k := k) hSV hBV)
    obtain ⟨c0, c1, c2⟩ := cells V bV
    clear hSV bV hBV cells
    go_enter Tryz.func153, Tryz.ntmps153
    go_wp2
    rw [HV.out]
    refine wp_loop_rounds 1 ?_
    rw [rounds_succ]
    go_wp2
    go_ret
    exact HE.out
  · obtain ⟨W, hW⟩ : ∃ W, V.alloc (.cells #[.string p, .iface 151 (.agg #[.int .i64 k])] 147) = W := ⟨_, rfl⟩
    have hS1 := hSV.alloc (.cells #[.string p, .iface 151 (.agg #[.int .i64 k])] 147)
    have bW := bV.alloc (.cells #[.string p, .iface 151 (.agg #[.int .i64 k])] 147)
    rw [hW] at hS1 bW
    have el := qElemV a t W hS1.ha
    have st := hS1.set k
    have HE := Lib.hid (as_ends (w0 := w) (k := k) hS1 fun B hB => by rw [← hW]; exact (hBV B hB).alloc (Nat.le_trans hB (hBV B hB).size) _)
    have HW := Lib.hid hW
    obtain ⟨c0, c1, c2⟩ := cells W bW
    clear hSV hS1 hW hBV bV bW cells
    go_enter Tryz.func153, Tryz.ntmps153
    go_wp2
    rw [HV.out]
    refine wp_loop_rounds 2 ?_
    rw [rounds_succ]
    go_wp2_with fail
    refine (unwrap_any p _ _).mono ?_
    rintro e w1 ⟨rfl, rfl⟩
    rw [HW.out]
    go_wp2
    rw [rounds_succ]
    go_wp2
    go_ret
    exact HE.out
  · obtain ⟨W, hW⟩ : ∃ W, V.alloc (.cells #[.string p, .iface 147 (.agg #[.string q, .iface 151 (.agg #[.int .i64 k])])] 147) = W := ⟨_, rfl⟩
    have hS1 := hSV.alloc (.cells #[.string p, .iface 147 (.agg #[.string q, .iface 151 (.agg #[.int .i64 k])])] 147)
    have bW := bV.alloc (.cells #[.string p, .iface 147 (.agg #[.string q, .iface 151 (.agg #[.int .i64 k])])] 147)
    rw [hW] at hS1 bW
    have hBW : ∀ B, B ≤ w.heap.size → Below B w W := fun B hB => by rw [← hW]; exact (hBV B hB).alloc (Nat.le_trans hB (hBV B hB).size) _
    obtain ⟨W', hW'⟩ : ∃ W', W.alloc (.cells #[.string q, .iface 151 (.agg #[.int .i64 k])] 147) = W' := ⟨_, rfl⟩
    have hS2 := hS1.alloc (.cells #[.string q, .iface 151 (.agg #[.int .i64 k])] 147)
    have bW' := bW.alloc (.cells #[.string q, .iface 151 (.agg #[.int .i64 k])] 147)
    rw [hW'] at hS2 bW'
    have el := qElemV a t W' hS2.ha
    have st := hS2.set k
    have HE := Lib.hid (as_ends (w0 := w) (k := k) hS2 fun B hB => by rw [← hW']; exact (hBW B hB).alloc (Nat.le_trans hB (hBW B hB).size) _)
    have HW := Lib.hid hW
    have HW' := Lib.hid hW'
    obtain ⟨c0, c1, c2⟩ := cells W' bW'
    clear hSV hS1 hS2 hW hW' hBV hBW bV bW bW' cells
    go_enter Tryz.func153, Tryz.ntmps153
    go_wp2
    rw [HV.out]
    refine wp_loop_rounds 3 ?_
    rw [rounds_succ]
    go_wp2_with fail
    refine (unwrap_any p _ _).mono ?_
    rintro e w1 ⟨rfl, rfl⟩
    rw [HW.out]
    go_wp2
    rw [rounds_succ]
    go_wp2_with fail
    refine (unwrap_any q _ _).mono ?_
    rintro e w1 ⟨rfl, rfl⟩
    rw [HW'.out]
    go_wp2
    rw [rounds_succ]
    go_wp2
    go_ret
    exact HE.out
end Go.Proofs.YtpogpjebhnoncabGreatDoor
