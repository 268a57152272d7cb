/- A call of a script that comes in: whether it sets, a position, a list of moves. -/
import Derived.Test.YtbdgbihdhbjljaaGreatDoorFrameC
namespace Go.Proofs.YtbdgbihdhbjljaaGreatDoor
open Go.ChangeShapes Go.WideShapes Go.ChangeAt Go.RowKit Go.Joins Go.Deep
set_option maxRecDepth 100000

theorem array6 {α : Type} {cs : Array α} (h : cs.size = 6) : ∃ c0 c1 c2 c3 c4 c5, cs = #[c0, c1, c2, c3, c4, c5] := by
  obtain ⟨l⟩ := cs
  match l, h with
  | [c0, c1, c2, c3, c4, c5], _ => exact ⟨c0, c1, c2, c3, c4, c5, rfl⟩
theorem mz_trod {H : Type} {enc : TypeId × Value → H} {w : World} {fuel : Nat} {u0 : Value} {x : DataW H × List MemPlace}
    (hf : DataW.trod enc Tryz.prog w 0 (fun _ => true) true fuel 24 [u0] = some x) : ∃ (A : Option Addr) (l : List (Int × Int)) (c : Nat), u0 = .slice A l.length c ∧ Rd w A (mzL l) ∧ l.length ≤ c := by
  rcases Go.Deep.open_slice_pairs Tryz.underlying24 Tryz.underlying48 (by kernel_rfl) rfl rfl (by kernel_rfl) (by kernel_rfl) hf with ⟨hcs, _⟩ | ⟨a, len', cap', m, n, V0, V1, D0, D1, P0, P1, hcs, _, hl, _, hm, _, hx⟩
  · simp only [List.cons.injEq, and_true] at hcs
    subst hcs
    exact ⟨none, [], 0, rfl, fun j u hu => by simp [mzL] at hu, Nat.le_refl _⟩
  · simp only [List.cons.injEq, and_true] at hcs
    subst hcs
    simp only [if_true] at hm
    refine ⟨some a, (List.range len').map fun i => (iOfC (V0 i), iOfC (V1 i)), cap', by simp, fun j u hu => ⟨a, rfl, ?_⟩, by simpa using hl⟩
    obtain ⟨k, hk, hc⟩ := mz_cases hu
    have hk' : k < len' := by simpa using hk
    obtain ⟨h0, h1, t0, t1⟩ := hx k (by omega)
    obtain ⟨n0, e0, _, _⟩ := DataW.trod_int Tryz.underlying3 t0
    obtain ⟨n1, e1, _, _⟩ := DataW.trod_int Tryz.underlying3 t1
    simp only [List.cons.injEq, and_true] at e0 e1
    rcases hc with ⟨rfl, rfl⟩ | ⟨rfl, rfl⟩
    · rw [h0, e0]
      simp [iOfC, e0]
    · rw [h1, e1]
      simp [iOfC, e1]
theorem op_trod {H : Type} {enc : TypeId × Value → H} {w : World} {n : Nat} {v0 v1 v2 v3 v4 v5 : Value} {x : DataW H × List MemPlace} (h : DataW.trod enc Tryz.prog w 0 (fun _ => true) true n 41 [v0, v1, v2, v3, v4, v5] = some x) :
    ∃ (b : Bool) (s : ByteArray) (y z u : Int) (A : Option Addr) (l : List (Int × Int)) (c : Nat), v0 = .bool b ∧ v1 = .string s ∧ v2 = .int .i64 y ∧ v3 = .int .i64 z ∧ v4 = .int .i64 u ∧ v5 = .slice A l.length c ∧ Rd w A (mzL l) ∧ l.length ≤ c := by
  have cp : Tryz.prog.cellsOf 23 = 4 := by kernel_rfl
  have cb : Tryz.prog.cellsOf 4 = 1 := by kernel_rfl
  have ci : Tryz.prog.cellsOf 3 = 1 := by kernel_rfl
  have cs : Tryz.prog.cellsOf 9 = 1 := by kernel_rfl
  have cm : Tryz.prog.cellsOf 24 = 1 := by kernel_rfl
  obtain ⟨y0, y1, y2, n', _, _, g0, g1, g2⟩ := trod_struct3 Tryz.underlying41 h
  have g0' : DataW.trod enc Tryz.prog w 0 (fun _ => true) true n' 4 [v0] = some y0 := by simpa [cb] using g0
  have g1' : DataW.trod enc Tryz.prog w 0 (fun _ => true) true n' 23 [v1, v2, v3, v4] = some y1 := by simpa [cp] using g1
  have g2' : DataW.trod enc Tryz.prog w 0 (fun _ => true) true n' 24 [v5] = some y2 := by simpa [cm] using g2
  obtain ⟨z0, z1, z2, z3, n2, _, _, k0, k1, k2, k3⟩ := trod_struct4 Tryz.underlying23 g1'
  have k0' : DataW.trod enc Tryz.prog w 0 (fun _ => true) true n2 9 [v1] = some z0 := by simpa [cs] using k0
  have k1' : DataW.trod enc Tryz.prog w 0 (fun _ => true) true n2 3 [v2] = some z1 := by simpa [ci] using k1
  have k2' : DataW.trod enc Tryz.prog w 0 (fun _ => true) true n2 3 [v3] = some z2 := by simpa [ci] using k2
  have k3' : DataW.trod enc Tryz.prog w 0 (fun _ => true) true n2 3 [v4] = some z3 := by simpa [ci] using k3
  obtain ⟨b, e0, _⟩ := DataW.trod_bool Tryz.underlying4 g0'
  obtain ⟨s, e1, _, _⟩ := DataW.trod_string Tryz.underlying9 k0'
  obtain ⟨i1, e2, _, _⟩ := DataW.trod_int Tryz.underlying3 k1'
  obtain ⟨i2, e3, _, _⟩ := DataW.trod_int Tryz.underlying3 k2'
  obtain ⟨i3, e4, _, _⟩ := DataW.trod_int Tryz.underlying3 k3'
  obtain ⟨A', l, c, e5, hr, hc⟩ := mz_trod g2'
  simp only [List.cons.injEq, and_true] at e0 e1 e2 e3 e4
  exact ⟨b, s, i1, i2, i3, A', l, c, e0, e1, e2, e3, e4, e5, hr, hc⟩
theorem open_op {H : Type} {enc : TypeId × Value → H} {w : World} {b0 : Nat} {r : Reach} {v : Value} {d : DataW H} {p : List MemPlace}
    (hv : Value.okWide Tryz.prog w r b0 41 v) (h : DataW.Trod enc Tryz.prog w 0 (fun _ => true) true 41 v d p) :
    ∃ (b : Bool) (s : ByteArray) (y z u : Int) (A : Option Addr) (l : List (Int × Int)) (c : Nat), v = .agg #[.bool b, .string s, .int .i64 y, .int .i64 z, .int .i64 u, .slice A l.length c] ∧ Rd w A (mzL l) ∧ l.length ≤ c := by
  obtain ⟨cs, rfl, hsz⟩ := okWide_struct Tryz.underlying41 hv
  have ce : Tryz.prog.cellsOf 41 = 6 := by kernel_rfl
  obtain ⟨c0, c1, c2, c3, c4, c5, rfl⟩ := array6 (hsz.trans ce)
  obtain ⟨fuel, hf⟩ := h
  obtain ⟨b, s, y, z, u, A', l, c, rfl, rfl, rfl, rfl, rfl, rfl, hr, hc⟩ := op_trod hf
  exact ⟨b, s, y, z, u, A', l, c, rfl, hr, hc⟩
end Go.Proofs.YtbdgbihdhbjljaaGreatDoor
