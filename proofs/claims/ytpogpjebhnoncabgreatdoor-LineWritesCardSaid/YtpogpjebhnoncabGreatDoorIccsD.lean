/- What errors.Is answers of this package's errors: nothing, or a fault that holds one of the three. -/
import Derived.Test.YtpogpjebhnoncabGreatDoorIccsC
import Derived.LaidEql
import Derived.Stop.Asserts
import Derived.RowKitTokens
namespace Go.Proofs.YtpogpjebhnoncabGreatDoor
open Go.RowKit Go.Shelf Go.Extern.Stop Go.Stop Go.Extern
open M (S)

/-- An error of errors.New's make; a fault that holds one. -/
abbrev errV (a : Addr) : Value := .iface 165 (.pointer (some a))
abbrev faultV (s : ByteArray) (a : Addr) : Value := .iface 141 (.agg #[.string s, errV a])

theorem is_typeOf (v : Value) (w : World) : (Extern.ReflectliteType.typeOf #[.iface 165 v]).run Tryz.prog w = .ok (.iface 195 (.agg #[.pointer (some ⟨12, 165, none⟩)])) w := by kernel_rfl
theorem is_comparable (w : World) : ((Extern.ReflectliteType.method fun t => do Extern.Rtype.noPackHeld "Comparable" t; pure (.bool (← typeInfo t).comparable)) #[.agg #[.pointer (some ⟨12, 165, none⟩)]]).run Tryz.prog w = .ok (.bool true) w := by kernel_rfl
theorem is_callC (w : World) : (callFunc 207 #[.agg #[.pointer (some ⟨12, 165, none⟩)]]).run Tryz.prog w = .ok (.value (.bool true)) w := by
  rw [@run_callFunc_extern Tryz.prog 207 _ (Extern.ReflectliteType.method fun t => do Extern.Rtype.noPackHeld "Comparable" t; pure (.bool (← typeInfo t).comparable)) Tryz.func207 (by kernel_rfl) (by kernel_rfl) (by kernel_rfl) (by kernel_rfl), is_comparable]
  rfl
theorem is_methodC (v : Value) (w : World) : (Go.method 342 195 v "Comparable").run Tryz.prog w = .ok (207, v) w := by kernel_rfl
theorem is_comp : (Tryz.prog.info? 165).map (·.comparable) = some true := by kernel_rfl
theorem is_size : (Tryz.prog.info? 167).map (·.size) = some 1 := by kernel_rfl
theorem noIsE (v : Value) (xT : TypeId) (w : World) : (Instr.typeAssert (.iface 165 v) xT 197 true).run Tryz.prog w = .ok (.tuple #[.nilIface, .bool false]) w := run_typeAssert_lacksB Tryz.underlying197 (by kernel_rfl) (by kernel_rfl) v xT w
theorem noUnE (v : Value) (xT : TypeId) (w : World) : (Instr.typeAssert (.iface 165 v) xT 200 true).run Tryz.prog w = .ok (.tuple #[.nilIface, .bool false]) w := run_typeAssert_lacksB Tryz.underlying200 (by kernel_rfl) (by kernel_rfl) v xT w
theorem noUnsE (v : Value) (xT : TypeId) (w : World) : (Instr.typeAssert (.iface 165 v) xT 202 true).run Tryz.prog w = .ok (.tuple #[.nilIface, .bool false]) w := run_typeAssert_lacksB Tryz.underlying202 (by kernel_rfl) (by kernel_rfl) v xT w
theorem noIsF (v : Value) (xT : TypeId) (w : World) : (Instr.typeAssert (.iface 141 v) xT 197 true).run Tryz.prog w = .ok (.tuple #[.nilIface, .bool false]) w := run_typeAssert_lacksB Tryz.underlying197 (by kernel_rfl) (by kernel_rfl) v xT w
theorem hasUnF (v : Value) (xT : TypeId) (w : World) : (Instr.typeAssert (.iface 141 v) xT 200 true).run Tryz.prog w = .ok (.tuple #[.iface 141 v, .bool true]) w := run_typeAssert_hasB Tryz.underlying200 (by kernel_rfl) v xT w
theorem methodUn (v : Value) (w : World) : (Go.method 342 141 v "Unwrap").run Tryz.prog w = .ok (197, v) w := by kernel_rfl

/-- errors.is of the two as they are told here: another error, a fault that holds the same, one that holds another. -/
theorem is2_same (a : Addr) (w : World) : Calls Tryz.prog 147 #[errV a, errV a, .bool true] w fun e w' => e = .returned (.bool true) ∧ w = w' := by
  obtain ⟨i, hi, hcmp⟩ := Option.map_eq_some_iff.1 is_comp
  obtain ⟨j, hj, hjs⟩ := Option.map_eq_some_iff.1 is_size
  have heq := run_eql_iface_ptr_same (P := Tryz.prog) w a Tryz.underlying69 Tryz.underlying165 hi hcmp hj
  go_enter Tryz.func147, Tryz.ntmps147
  go_wp2
  refine wp_loop_rounds 1 ?_
  rw [rounds_succ]
  go_wp2
  go_ret
  exact ⟨rfl, rfl⟩
theorem is2_fault_same (s : ByteArray) (a : Addr) (w : World) : Calls Tryz.prog 147 #[faultV s a, errV a, .bool true] w (Gives w (.bool true)) := by
  unfold Gives
  obtain ⟨i, hi, hcmp⟩ := Option.map_eq_some_iff.1 is_comp
  obtain ⟨j, hj, hjs⟩ := Option.map_eq_some_iff.1 is_size
  have heq := fun W => run_eql_iface_ptr_same (P := Tryz.prog) W a Tryz.underlying69 Tryz.underlying165 hi hcmp hj
  have hty := run_eql_iface_types (P := Tryz.prog) 141 165 (.agg #[.string s, errV a]) (.pointer (some a)) Tryz.underlying69 (by decide)
  have nI := noIsF
  have hU := hasUnF
  have mU := methodUn
  go_enter Tryz.func147, Tryz.ntmps147
  go_wp2
  refine wp_loop_rounds 2 ?_
  rw [rounds_succ]
  go_wp2
  rw [rounds_succ]
  go_wp2
  go_ret
  exact ⟨rfl, (by repeat (first | exact Below.refl _ _ | (refine Below.setCell ?_ (by first | omega | (simp; done) | (simp; omega) | (simp at *; omega)) _) | (refine Below.alloc ?_ (by first | omega | (simp; done) | (simp; omega) | (simp at *; omega)) _) | refine Below.drew ?_ | (refine below_drewN ?_ _) | (refine Below.trans ?_ (Below.mono (by assumption) (by first | omega | (simp; done) | (simp; omega) | (simp at *; omega))))))⟩
theorem is2_fault_other (s : ByteArray) (a b : Addr) (ca cb : Array Value) (ta tb : TypeId) (w : World) (hne : a ≠ b) (ha : w.heap[a.block]? = some (.cells ca ta (0, 0))) (hb : w.heap[b.block]? = some (.cells cb tb (0, 0))) :
    Calls Tryz.prog 147 #[faultV s a, errV b, .bool true] w (Gives w (.bool false)) := by
  unfold Gives
  obtain ⟨i, hi, hcmp⟩ := Option.map_eq_some_iff.1 is_comp
  obtain ⟨j, hj, hjs⟩ := Option.map_eq_some_iff.1 is_size
  have hB : Below w.heap.size w (w.alloc (.cells #[.string s, errV a] 141)) := (by repeat (first | exact Below.refl _ _ | (refine Below.setCell ?_ (by first | omega | (simp; done) | (simp; omega) | (simp at *; omega)) _) | (refine Below.alloc ?_ (by first | omega | (simp; done) | (simp; omega) | (simp at *; omega)) _) | refine Below.drew ?_ | (refine below_drewN ?_ _) | (refine Below.trans ?_ (Below.mono (by assumption) (by first | omega | (simp; done) | (simp; omega) | (simp at *; omega))))))
  have hla : a.block < w.heap.size := (Array.getElem?_eq_some_iff.1 ha).1
  have hlb : b.block < w.heap.size := (Array.getElem?_eq_some_iff.1 hb).1
  have heq := run_eql_iface_ptr_other (P := Tryz.prog) (w.alloc (.cells #[.string s, errV a] 141)) Tryz.underlying69 Tryz.underlying165 hi hcmp hj (by rw [hjs]; decide) hne ((hB.block _ hla).trans ha) ((hB.block _ hlb).trans hb)
  have hty := run_eql_iface_types (P := Tryz.prog) 141 165 (.agg #[.string s, errV a]) (.pointer (some b)) Tryz.underlying69 (by decide)
  have nI := noIsF
  have hU := hasUnF
  have mU := methodUn
  have nE := noIsE
  have uE := noUnE
  have vE := noUnsE
  clear ha hb hla hlb
  go_enter Tryz.func147, Tryz.ntmps147
  go_wp2
  refine wp_loop_rounds 2 ?_
  rw [rounds_succ]
  go_wp2
  rw [rounds_succ]
  go_wp2
  go_ret
  exact ⟨rfl, hB⟩
/-- errors.Is. -/
theorem is_nil (b : Addr) (w : World) : Calls Tryz.prog 123 #[.nilIface, errV b] w (Gives w (.bool false)) := by
  unfold Gives
  have hn := run_eql_iface_nil_left (P := Tryz.prog) w 165 (.pointer (some b)) Tryz.underlying69
  go_enter Tryz.func123, Tryz.ntmps123
  go_wp2
  go_ret
  exact ⟨rfl, Below.refl _ _⟩
theorem is_fault_same (s : ByteArray) (a : Addr) (w : World) : Calls Tryz.prog 123 #[faultV s a, errV a] w (Gives w (.bool true)) := by
  unfold Gives
  have hT := @run_callFunc_extern Tryz.prog 146 _ Extern.ReflectliteType.typeOf Tryz.func146 (by kernel_rfl) (by kernel_rfl) (by kernel_rfl) (by kernel_rfl)
  have hC := is_callC
  have tT := is_typeOf
  have mR := is_methodC
  go_enter Tryz.func123, Tryz.ntmps123
  go_wp2_with fail
  refine (is2_fault_same s a _).mono ?_
  rintro e w1 ⟨rfl, hb⟩
  go_wp2
  go_ret
  exact ⟨rfl, hb⟩
theorem is_fault_other (s : ByteArray) (a b : Addr) (ca cb : Array Value) (ta tb : TypeId) (w : World) (hne : a ≠ b) (ha : w.heap[a.block]? = some (.cells ca ta (0, 0))) (hb : w.heap[b.block]? = some (.cells cb tb (0, 0))) :
    Calls Tryz.prog 123 #[faultV s a, errV b] w (Gives w (.bool false)) := by
  unfold Gives
  have hT := @run_callFunc_extern Tryz.prog 146 _ Extern.ReflectliteType.typeOf Tryz.func146 (by kernel_rfl) (by kernel_rfl) (by kernel_rfl) (by kernel_rfl)
  have hC := is_callC
  have tT := is_typeOf
  have mR := is_methodC
  have HO := Lib.hid (is2_fault_other s a b ca cb ta tb w hne ha hb)
  clear ha hb
  go_enter Tryz.func123, Tryz.ntmps123
  go_wp2_with fail
  refine HO.out.mono ?_
  rintro e w1 ⟨rfl, hb⟩
  go_wp2
  go_ret
  exact ⟨rfl, hb⟩
/-- The three errors, as they lie. -/
structure Errs (w : World) (a0 a1 a2 : Addr) : Prop where
  g0 : w.cell? ⟨3, 0, none⟩ = some (errV a0)
  g1 : w.cell? ⟨4, 0, none⟩ = some (errV a1)
  g2 : w.cell? ⟨5, 0, none⟩ = some (errV a2)
  n01 : a0 ≠ a1
  n02 : a0 ≠ a2
  n12 : a1 ≠ a2
  h0 : ∃ c t, w.heap[a0.block]? = some (.cells c t (0, 0))
  h1 : ∃ c t, w.heap[a1.block]? = some (.cells c t (0, 0))
  h2 : ∃ c t, w.heap[a2.block]? = some (.cells c t (0, 0))
theorem heap_lt {w : World} {k : Nat} {o : Obj} (h : w.heap[k]? = some o) : k < w.heap.size := (Array.getElem?_eq_some_iff.1 h).1
theorem Errs.next {w w' : World} {a0 a1 a2 : Addr} (h : Errs w a0 a1 a2) (hb : Below w.heap.size w w') : Errs w' a0 a1 a2 := by
  obtain ⟨c0, t0, k0⟩ := h.h0
  obtain ⟨c1, t1, k1⟩ := h.h1
  obtain ⟨c2, t2, k2⟩ := h.h2
  exact ⟨(hb.cell (p := ⟨3, 0, none⟩) (cell_lt h.g0)).trans h.g0, (hb.cell (p := ⟨4, 0, none⟩) (cell_lt h.g1)).trans h.g1, (hb.cell (p := ⟨5, 0, none⟩) (cell_lt h.g2)).trans h.g2, h.n01, h.n02, h.n12,
    ⟨c0, t0, (hb.block _ (heap_lt k0)).trans k0⟩, ⟨c1, t1, (hb.block _ (heap_lt k1)).trans k1⟩, ⟨c2, t2, (hb.block _ (heap_lt k2)).trans k2⟩⟩
/-- Which of the three a fault holds, by its number; nothing: none. -/
def errA (a0 a1 a2 : Addr) (s : ByteArray) (k : Int) : Value := if k = 6 then faultV s a0 else if k = 8 then faultV s a1 else if k = 7 then faultV s a2 else .nilIface
set_option maxHeartbeats 2000000 in
theorem number_is {w : World} {a0 a1 a2 : Addr} (h : Errs w a0 a1 a2) (s : ByteArray) (k : Int) (hk : k = 0 ∨ k = 6 ∨ k = 7 ∨ k = 8) : Calls Tryz.prog 98 #[errA a0 a1 a2 s k] w (Gives w (.int .i64 k)) := by
  unfold Gives
  have h0 := h.g0
  rcases hk with rfl | rfl | rfl | rfl
  · show Calls Tryz.prog 98 #[.nilIface] w _
    go_enter Tryz.func98, Tryz.ntmps98
    go_wp2_with fail
    refine (is_nil a0 _).mono ?_
    rintro e w1 ⟨rfl, hb1⟩
    have e1 := h.next hb1
    have h1 := e1.g1
    clear h0
    go_wp2_with fail
    refine (is_nil a1 _).mono ?_
    rintro e w2 ⟨rfl, hb2⟩
    have e2 := e1.next hb2
    have h2 := e2.g2
    clear h1
    go_wp2_with fail
    refine (is_nil a2 _).mono ?_
    rintro e w3 ⟨rfl, hb3⟩
    go_wp2
    go_ret
    exact ⟨rfl, hb1.trans ((hb2.trans (hb3.mono hb2.size)).mono hb1.size)⟩
  · show Calls Tryz.prog 98 #[faultV s a0] w _
    go_enter Tryz.func98, Tryz.ntmps98
    go_wp2_with fail
    refine (is_fault_same s a0 _).mono ?_
    rintro e w1 ⟨rfl, hb1⟩
    go_wp2
    go_ret
    exact ⟨rfl, hb1⟩
  · show Calls Tryz.prog 98 #[faultV s a2] w _
    obtain ⟨c0, t0, k0⟩ := h.h0
    obtain ⟨c2, t2, k2⟩ := h.h2
    have HO := Lib.hid (is_fault_other s a2 a0 c2 c0 t2 t0 w h.n02.symm k2 k0)
    clear k0 k2
    go_enter Tryz.func98, Tryz.ntmps98
    go_wp2_with fail
    refine HO.out.mono ?_
    rintro e w1 ⟨rfl, hb1⟩
    have e1 := h.next hb1
    have h1 := e1.g1
    obtain ⟨c1, t1, k1⟩ := e1.h1
    obtain ⟨c2, t2, k2⟩ := e1.h2
    have HO := Lib.hid (is_fault_other s a2 a1 c2 c1 t2 t1 w1 h.n12.symm k2 k1)
    clear h0 k1 k2
    go_wp2_with fail
    refine HO.out.mono ?_
    rintro e w2 ⟨rfl, hb2⟩
    have e2 := e1.next hb2
    have h2 := e2.g2
    clear h1
    go_wp2_with fail
    refine (is_fault_same s a2 _).mono ?_
    rintro e w3 ⟨rfl, hb3⟩
    go_wp2
    go_ret
    exact ⟨rfl, hb1.trans ((hb2.trans (hb3.mono hb2.size)).mono hb1.size)⟩
  · show Calls Tryz.prog 98 #[faultV s a1] w _
    obtain ⟨c0, t0, k0⟩ := h.h0
    obtain ⟨c1, t1, k1⟩ := h.h1
    have HO := Lib.hid (is_fault_other s a1 a0 c1 c0 t1 t0 w h.n01.symm k1 k0)
    clear k0 k1
    go_enter Tryz.func98, Tryz.ntmps98
    go_wp2_with fail
    refine HO.out.mono ?_
    rintro e w1 ⟨rfl, hb1⟩
    have h1 := (h.next hb1).g1
    clear h0
    go_wp2_with fail
    refine (is_fault_same s a1 _).mono ?_
    rintro e w2 ⟨rfl, hb2⟩
    go_wp2
    go_ret
    exact ⟨rfl, hb1.trans (hb2.mono hb1.size)⟩
end Go.Proofs.YtpogpjebhnoncabGreatDoor
