/- What Parse answers, for every text. -/
import Derived.Test.YtpogpjebhnoncabGreatDoorFenQ7
namespace Go.Proofs.YtpogpjebhnoncabGreatDoor
open Go.RowKit Go.Shelf Go.Extern.Stop Go.Stop Go.Extern
open M (S)

set_option maxRecDepth 100000 in
set_option maxHeartbeats 4000000 in
theorem asTop_any (k : Int) (u : Value) (t : Addr) (old : Value) (w : World) (hg : w.cell? ⟨9, 0, none⟩ = some (.iface 195 (.agg #[.pointer (some ⟨12, 69, none⟩)]))) (h : Err k 2 u) (ht : w.cell? t = some old) (hf : w.frozen? t = false) :
    Calls Tryz.prog 129 #[u, .iface 154 (.pointer (some t))] w (GivesS w t k) := by
  have h1 := @run_callFunc_extern Tryz.prog 150 _ (fun args => ReflectliteValue.unpack (args.getD 0 (.tuple #[]))) Tryz.func150 (by kernel_rfl) (by kernel_rfl) (by kernel_rfl) (by kernel_rfl)
  have h2 := @run_callFunc_extern Tryz.prog 151 _ (ReflectliteValue.methodAny (ReflectliteValue.valueError "reflectlite.Value.Type" 0) (fun t _ _ _ => ReflectliteType.toType t)) Tryz.func151 (by kernel_rfl) (by kernel_rfl) (by kernel_rfl) (by kernel_rfl)
  have h3 := @run_callFunc_extern Tryz.prog 152 _ (ReflectliteValue.method (ReflectliteValue.valueError "reflectlite.Value.IsNil" 0) ReflectliteValue.isNil) Tryz.func152 (by kernel_rfl) (by kernel_rfl) (by kernel_rfl) (by kernel_rfl)
  have h4 := @run_callFunc_extern Tryz.prog 189 _ (ReflectliteType.abiMethod fun t => do pure (.int .u8 (← Rtype.kind t))) Tryz.func189 (by kernel_rfl) (by kernel_rfl) (by kernel_rfl) (by kernel_rfl)
  have h5 := @run_callFunc_extern Tryz.prog 208 _ (ReflectliteType.method ReflectliteType.elem) Tryz.func208 (by kernel_rfl) (by kernel_rfl) (by kernel_rfl) (by kernel_rfl)
  have h6 := @run_callFunc_extern Tryz.prog 209 _ (ReflectliteType.relation "Implements" ReflectliteType.implements_) Tryz.func209 (by kernel_rfl) (by kernel_rfl) (by kernel_rfl) (by kernel_rfl)
  have f1 := qValueOfP
  have f2 := qTypeP
  have f3 := qMethodKind
  have f4 := qKindP
  have f5 := qKindS
  have f6 := qMethodElem
  have f7 := qMethodImplements
  have f8 := qElemP
  have f9 := qImplements
  obtain ⟨W, hW⟩ : ∃ W, (w.alloc (.cells #[.pointer (some t)] 154)).alloc (.cells #[.pointer (some ⟨12, 154, none⟩), .pointer (some ⟨w.heap.size, 0, none⟩), .int .u64 150] 174) = W := ⟨_, rfl⟩
  have hB : ∀ B, B ≤ w.heap.size → Below B w W := fun B hB => by
    rw [← hW]
    have h1 := (Below.refl B w).alloc hB (.cells #[.pointer (some t)] 154)
    exact h1.alloc (Nat.le_trans hB h1.size) _
  have b1 : Blk W (w.heap.size + 1) 174 #[.pointer (some ⟨12, 154, none⟩), .pointer (some ⟨w.heap.size, 0, none⟩), .int .u64 150] := by rw [← hW]; exact Blk.new _ _ _ (by simp)
  have b0 : Blk W w.heap.size 154 #[.pointer (some t)] := by rw [← hW]; exact (Blk.new _ _ _ rfl).alloc _
  have hBW := hB w.heap.size (Nat.le_refl _)
  have hlt := cell_lt ht
  have hAs : AsSt W ⟨w.heap.size, 0, none⟩ t old := ⟨b0.cell 0, (hBW.cell hlt).trans ht, by
    rw [← hW, World.frozen?_alloc_old _ _ t (by simp; omega), World.frozen?_alloc_old _ _ t (Nat.ne_of_lt hlt)]
    exact hf⟩
  have g0 := (hBW.cell (p := ⟨9, 0, none⟩) (cell_lt hg)).trans hg
  have n8 := qIsNil ⟨w.heap.size, 0, none⟩ t W (b0.cell 0)
  rw [← hW] at n8 g0
  have HA := Lib.hid (as_any k u t _ old W h hAs)
  have HW := Lib.hid hW
  obtain ⟨ty, pv, rfl⟩ := err_iface h
  clear h ht hf hg hW b0 b1 hAs hlt
  go_enter Tryz.func129, Tryz.ntmps129
  go_wp2_with fail
  rw [HW.out]
  refine HA.out.mono ?_
  rintro e w1 ⟨rfl, hc, hb⟩
  go_wp2
  go_ret
  exact ⟨rfl, hc, fun B h1 h2 => (hB B h2).trans (hb B h1 (Nat.le_trans h2 hBW.size))⟩
set_option maxRecDepth 100000 in
set_option maxHeartbeats 4000000 in
/-- What an error is told by, however it is wrapped. -/
theorem number_any (k : Int) (u : Value) (w : World) (hE : Env w) (h : Err k 2 u) : Calls Tryz.prog 100 #[u] w (Gives w (.int .i64 k)) := by
  unfold Gives
  have b0 : Blk (w.alloc (.cells #[.int .i64 0] 151)) w.heap.size 151 #[.int .i64 0] := Blk.new _ _ _ rfl
  have hB : Below w.heap.size w (w.alloc (.cells #[.int .i64 0] 151)) := (by repeat (first | exact Below.refl _ _ | (refine Below.setCell ?_ (by first | omega | (simp; done) | (simp; omega) | (simp at *; omega)) _) | (refine Below.alloc ?_ (by first | omega | (simp; done) | (simp; omega) | (simp at *; omega)) _) | refine Below.drew ?_ | (refine below_drewN ?_ _) | (refine Below.trans ?_ (Below.mono (by assumption) (by first | omega | (simp; done) | (simp; omega) | (simp at *; omega))))))
  have HA := Lib.hid (asTop_any k u ⟨w.heap.size, 0, none⟩ _ _ (hE.next hB).ety h (b0.cell 0) (b0.frozen 0))
  clear h b0
  go_enter Tryz.func100, Tryz.ntmps100
  go_wp2_with fail
  refine HA.out.mono ?_
  rintro e w1 ⟨rfl, hc, hb⟩
  go_wp2
  go_ret
  exact ⟨rfl, hB.trans (hb _ (Nat.le_refl _) (by simp))⟩
theorem one_zero {w W : World} {t : TypeId} {cs : Array Value} (hb : Below (w.alloc (.cells cs t)).heap.size (w.alloc (.cells cs t)) W) : Blk W w.heap.size t cs ∧ Below w.heap.size w W := by
  have h0 : Below w.heap.size w (w.alloc (.cells cs t)) := (by repeat (first | exact Below.refl _ _ | (refine Below.setCell ?_ (by first | omega | (simp; done) | (simp; omega) | (simp at *; omega)) _) | (refine Below.alloc ?_ (by first | omega | (simp; done) | (simp; omega) | (simp at *; omega)) _) | refine Below.drew ?_ | (refine below_drewN ?_ _) | (refine Below.trans ?_ (Below.mono (by assumption) (by first | omega | (simp; done) | (simp; omega) | (simp at *; omega))))))
  exact ⟨(Blk.new _ _ _ rfl).next hb, h0.trans (hb.mono h0.size)⟩
set_option maxRecDepth 100000 in
set_option maxHeartbeats 4000000 in
theorem parse_err (t : List UInt8) (k : Int) (w : World) (hE : Env w) (ht : t.length < 4294967281) (hr : ∀ v, ReadO (F.formL t) v → ∃ s a b c ty pv, v = .tuple #[.agg #[.string s, .int .i64 a, .int .i64 b, .int .i64 c], .iface ty pv] ∧ Err k 2 (.iface ty pv)) : Calls Tryz.prog 69 #[.string (bs t)] w (Gives w (.tuple #[posZ, .int .i64 k])) := by
  unfold Gives
  have HR := Lib.hid hr
  clear hr
  go_enter Tryz.func69, Tryz.ntmps69
  go_wp2_with fail
  refine (read_any t _ (hE.next (by repeat (first | exact Below.refl _ _ | (refine Below.setCell ?_ (by first | omega | (simp; done) | (simp; omega) | (simp at *; omega)) _) | (refine Below.alloc ?_ (by first | omega | (simp; done) | (simp; omega) | (simp at *; omega)) _) | refine Below.drew ?_ | (refine below_drewN ?_ _) | (refine Below.trans ?_ (Below.mono (by assumption) (by first | omega | (simp; done) | (simp; omega) | (simp at *; omega))))))) ht).mono ?_
  rintro e w1 ⟨v, rfl, hv, hb⟩
  obtain ⟨s, a, b, c, ty, pv, rfl, he⟩ := HR.out v hv
  obtain ⟨bR, hB⟩ := one_zero hb
  replace hE := hE.next hB
  clear hb hv
  go_wp2_with fail
  have hA : Below w1.heap.size w1 (w1.alloc (.cells #[.string s, .int .i64 a, .int .i64 b, .int .i64 c] 23)) := (by repeat (first | exact Below.refl _ _ | (refine Below.setCell ?_ (by first | omega | (simp; done) | (simp; omega) | (simp at *; omega)) _) | (refine Below.alloc ?_ (by first | omega | (simp; done) | (simp; omega) | (simp at *; omega)) _) | refine Below.drew ?_ | (refine below_drewN ?_ _) | (refine Below.trans ?_ (Below.mono (by assumption) (by first | omega | (simp; done) | (simp; omega) | (simp at *; omega))))))
  refine (number_any k _ _ (hE.next hA) he).mono ?_
  rintro e w2 ⟨rfl, hb⟩
  replace bR := (bR.next hA).next hb
  replace hB := (hB.trans (hA.mono hB.size)).trans (hb.mono (Nat.le_trans hB.size hA.size))
  clear hb hA he
  obtain ⟨r0, r1, r2, r3⟩ := pos_cells bR
  obtain ⟨f0, f1, f2, f3⟩ := pos_frozen bR
  go_wp2
  refine bodyPost_ret (res_pos rfl _ _ rfl (blk_four bR)) rfl ?_
  exact ⟨rfl, below_four hB⟩
set_option maxRecDepth 100000 in
set_option maxHeartbeats 4000000 in
theorem parse_ok (t : List UInt8) (s : ByteArray) (a b c : Int) (w : World) (hE : Env w) (ht : t.length < 4294967281) (hr : ∀ v, ReadO (F.formL t) v → v = .tuple #[.agg #[.string s, .int .i64 a, .int .i64 b, .int .i64 c], .nilIface]) : Calls Tryz.prog 69 #[.string (bs t)] w (Gives w (.tuple #[.agg #[.string s, .int .i64 a, .int .i64 b, .int .i64 c], .int .i64 0])) := by
  unfold Gives
  have HR := Lib.hid hr
  clear hr
  go_enter Tryz.func69, Tryz.ntmps69
  go_wp2_with fail
  refine (read_any t _ (hE.next (by repeat (first | exact Below.refl _ _ | (refine Below.setCell ?_ (by first | omega | (simp; done) | (simp; omega) | (simp at *; omega)) _) | (refine Below.alloc ?_ (by first | omega | (simp; done) | (simp; omega) | (simp at *; omega)) _) | refine Below.drew ?_ | (refine below_drewN ?_ _) | (refine Below.trans ?_ (Below.mono (by assumption) (by first | omega | (simp; done) | (simp; omega) | (simp at *; omega))))))) ht).mono ?_
  rintro e w1 ⟨v, rfl, hv, hb⟩
  obtain rfl := HR.out v hv
  obtain ⟨bR, hB⟩ := one_zero hb
  clear hb hv
  obtain ⟨r0, r1, r2, r3⟩ := pos_cells bR
  obtain ⟨f0, f1, f2, f3⟩ := pos_frozen bR
  have hlt := bR.lt
  go_wp2
  refine bodyPost_ret (res_pos rfl _ _ rfl ((blk_four bR).alloc _)) rfl ?_
  exact ⟨rfl, (below_four hB).alloc (Nat.le_trans hB.size (by simp)) _⟩
theorem parse_any (t : List UInt8) (w : World) (hE : Env w) (ht : t.length < 4294967281) : Calls Tryz.prog 69 #[.string (bs t)] w (Gives w (parseV t)) := by
  cases hf : F.formL t with
  | none =>
    rw [parse_none hf]
    exact parse_err t 6 w hE ht fun v h => by rw [hf] at h; exact h
  | some p =>
    by_cases h0 : (checkP p : Int) = 0
    · rw [parse_yes hf h0]
      exact parse_ok t _ _ _ _ w hE ht fun v h => by rw [hf, ReadO, if_pos h0] at h; exact h
    · rw [parse_no hf h0]
      exact parse_err t _ w hE ht fun v h => by rw [hf, ReadO, if_neg h0] at h; exact h
theorem parse_is (t : List UInt8) (v : Value) (w : World) (hE : Env w) (ht : t.length < 4294967281) (h : parseV t = v) : Calls Tryz.prog 69 #[.string (bs t)] w (Gives w v) := by subst h; exact parse_any t w hE ht
end Go.Proofs.YtpogpjebhnoncabGreatDoor
