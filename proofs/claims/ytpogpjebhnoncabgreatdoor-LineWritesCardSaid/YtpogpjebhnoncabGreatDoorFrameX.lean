/- A command that comes in: its kind, a position, a list of moves, how deep. -/
import Derived.Test.YtpogpjebhnoncabGreatDoorFrameY
import Derived.Test.YtpogpjebhnoncabGreatDoorLineI
import Derived.Deep.SlicePairs
namespace Go.Proofs.YtpogpjebhnoncabGreatDoor
open Go.ChangeShapes Go.WideShapes Go.ChangeAt Go.RowKit Go.Joins Go.Deep
set_option maxRecDepth 100000

theorem array7 {α : Type} {cs : Array α} (h : cs.size = 7) : ∃ c0 c1 c2 c3 c4 c5 c6, cs = #[c0, c1, c2, c3, c4, c5, c6] := by
  obtain ⟨l⟩ := cs
  match l, h with
  | [c0, c1, c2, c3, c4, c5, c6], _ => exact ⟨c0, c1, c2, c3, c4, c5, c6, rfl⟩
def iOfX : Value → Int
  | .int _ n => n
  | _ => 0
theorem cell_spot {w : World} {a : Addr} {j : Nat} {u v : Value} (h0 : w.cell? (a.add 0) = some v) (h : w.cell? (a.add j) = some u) : a.spot = none ∧ w.cell? ⟨a.block, a.off + j, none⟩ = some u := by
  obtain ⟨g, b, sp⟩ := a
  have hsp : sp = none := by simpa [Addr.add] using World.cell?_spot h0
  subst hsp
  have e1 : (⟨g, b, none⟩ : Addr).add j = ⟨g, b + j, none⟩ := by
    simp only [Addr.add]
    split <;> simp_all
  rw [e1] at h
  exact ⟨rfl, h⟩
theorem mv_trod {H : Type} {enc : TypeId × Value → H} {w : World} {fuel : Nat} {u0 : Value} {x : DataW H × List MemPlace}
    (hf : DataW.trod enc Tryz.prog w 0 (fun _ => true) true fuel 24 [u0] = some x) : ∃ (A : Option Addr) (l : List (Int × Int)) (c : Nat), u0 = .slice A l.length c ∧ RdM w A l := by
  rcases Go.Deep.open_slice_pairs Tryz.underlying24 Tryz.underlying60 (by kernel_rfl) rfl rfl (by kernel_rfl) (by kernel_rfl) hf with ⟨hcs, _⟩ | ⟨a, len', cap', m, n, V0, V1, D0, D1, P0, P1, hcs, _, hl, _, hm, _, hx⟩
  · simp only [List.cons.injEq, and_true] at hcs
    subst hcs
    exact ⟨none, [], 0, rfl, fun k m hm => by simp at hm⟩
  · simp only [List.cons.injEq, and_true] at hcs
    subst hcs
    simp only [if_true] at hm
    refine ⟨some a, (List.range len').map fun i => (iOfX (V0 i), iOfX (V1 i)), cap', by simp, fun k q hk => ?_⟩
    have hkl : k < len' := by
      have := (List.getElem?_eq_some_iff.1 hk).1
      simpa using this
    have hq : q = (iOfX (V0 k), iOfX (V1 k)) := by
      rw [List.getElem?_map, List.getElem?_range hkl] at hk
      simpa using hk.symm
    obtain ⟨z0, z1, _, _⟩ := hx 0 (by omega)
    obtain ⟨h0, h1, t0, t1⟩ := hx k (by omega)
    obtain ⟨n0, e0, _, _⟩ := DataW.trod_int Tryz.underlying3 t0
    obtain ⟨n1, e1, _, _⟩ := DataW.trod_int Tryz.underlying3 t1
    simp only [List.cons.injEq, and_true] at e0 e1
    rw [Nat.zero_mul] at z0
    obtain ⟨hs, k0⟩ := cell_spot z0 h0
    obtain ⟨_, k1⟩ := cell_spot z0 h1
    obtain ⟨g, b, sp⟩ := a
    simp only at hs k0 k1
    subst hs
    refine ⟨g, b, rfl, ?_, ?_⟩
    · rw [k0, hq, e0]; rfl
    · rw [Nat.add_assoc, k1, hq, e1]; rfl
theorem cmd_trod {H : Type} {enc : TypeId × Value → H} {w : World} {n : Nat} {v0 v1 v2 v3 v4 v5 v6 : Value} {x : DataW H × List MemPlace} (h : DataW.trod enc Tryz.prog w 0 (fun _ => true) true n 26 [v0, v1, v2, v3, v4, v5, v6] = some x) :
    ∃ (k : Int) (s : ByteArray) (y z u : Int) (A : Option Addr) (l : List (Int × Int)) (c : Nat) (d : Int), v0 = .int .i64 k ∧ v1 = .string s ∧ v2 = .int .i64 y ∧ v3 = .int .i64 z ∧ v4 = .int .i64 u ∧ v5 = .slice A l.length c ∧ v6 = .int .i64 d ∧ RdM w A l := by
  have cp : Tryz.prog.cellsOf 23 = 4 := by kernel_rfl
  have ci : Tryz.prog.cellsOf 3 = 1 := by kernel_rfl
  have cs : Tryz.prog.cellsOf 9 = 1 := by kernel_rfl
  have cm : Tryz.prog.cellsOf 24 = 1 := by kernel_rfl
  obtain ⟨y0, y1, y2, y3, n', _, _, g0, g1, g2, g3⟩ := trod_struct4 Tryz.underlying26 h
  have g0' : DataW.trod enc Tryz.prog w 0 (fun _ => true) true n' 3 [v0] = some y0 := by simpa [ci] using g0
  have g1' : DataW.trod enc Tryz.prog w 0 (fun _ => true) true n' 23 [v1, v2, v3, v4] = some y1 := by simpa [cp] using g1
  have g2' : DataW.trod enc Tryz.prog w 0 (fun _ => true) true n' 24 [v5] = some y2 := by simpa [cm] using g2
  have g3' : DataW.trod enc Tryz.prog w 0 (fun _ => true) true n' 3 [v6] = some y3 := by simpa [ci] using g3
  obtain ⟨z0, z1, z2, z3, n2, _, _, k0, k1, k2, k3⟩ := trod_struct4 Tryz.underlying23 g1'
  have k0' : DataW.trod enc Tryz.prog w 0 (fun _ => true) true n2 9 [v1] = some z0 := by simpa [cs] using k0
  have k1' : DataW.trod enc Tryz.prog w 0 (fun _ => true) true n2 3 [v2] = some z1 := by simpa [ci] using k1
  have k2' : DataW.trod enc Tryz.prog w 0 (fun _ => true) true n2 3 [v3] = some z2 := by simpa [ci] using k2
  have k3' : DataW.trod enc Tryz.prog w 0 (fun _ => true) true n2 3 [v4] = some z3 := by simpa [ci] using k3
  obtain ⟨i0, e0, _, _⟩ := DataW.trod_int Tryz.underlying3 g0'
  obtain ⟨s, e1, _, _⟩ := DataW.trod_string Tryz.underlying9 k0'
  obtain ⟨i1, e2, _, _⟩ := DataW.trod_int Tryz.underlying3 k1'
  obtain ⟨i2, e3, _, _⟩ := DataW.trod_int Tryz.underlying3 k2'
  obtain ⟨i3, e4, _, _⟩ := DataW.trod_int Tryz.underlying3 k3'
  obtain ⟨A', l, c, e5, hr⟩ := mv_trod g2'
  obtain ⟨i4, e6, _, _⟩ := DataW.trod_int Tryz.underlying3 g3'
  simp only [List.cons.injEq, and_true] at e0 e1 e2 e3 e4 e6
  exact ⟨i0, s, i1, i2, i3, A', l, c, i4, e0, e1, e2, e3, e4, e5, e6, hr⟩
theorem open_cmd {H : Type} {enc : TypeId × Value → H} {w : World} {b0 : Nat} {r : Reach} {v : Value} {d : DataW H} {p : List MemPlace}
    (hv : Value.okWide Tryz.prog w r b0 26 v) (h : DataW.Trod enc Tryz.prog w 0 (fun _ => true) true 26 v d p) :
    ∃ (k : Int) (s : ByteArray) (y z u : Int) (A : Option Addr) (l : List (Int × Int)) (c : Nat) (e : Int), v = .agg #[.int .i64 k, .string s, .int .i64 y, .int .i64 z, .int .i64 u, .slice A l.length c, .int .i64 e] ∧ RdM w A l := by
  obtain ⟨cs, rfl, hsz⟩ := okWide_struct Tryz.underlying26 hv
  have ce : Tryz.prog.cellsOf 26 = 7 := by kernel_rfl
  obtain ⟨c0, c1, c2, c3, c4, c5, c6, rfl⟩ := array7 (hsz.trans ce)
  obtain ⟨fuel, hf⟩ := h
  obtain ⟨k, s, y, z, u, A', l, c, e, rfl, rfl, rfl, rfl, rfl, rfl, rfl, hr⟩ := cmd_trod hf
  exact ⟨k, s, y, z, u, A', l, c, e, rfl, hr⟩
end Go.Proofs.YtpogpjebhnoncabGreatDoor
