/- Lists of positions and of moves that come in: as they lie. -/
import Derived.Test.YtbdgbihdhbjljaaGreatDoorFrame
import Derived.Test.YtbdgbihdhbjljaaGreatDoorCycleM
import Derived.Deep.SlicePairs
namespace Go.Proofs.YtbdgbihdhbjljaaGreatDoor
open Go.ChangeShapes Go.WideShapes Go.ChangeAt Go.RowKit Go.Joins Go.Deep
set_option maxRecDepth 100000

def iOfC : Value → Int
  | .int _ n => n
  | _ => 0
def sOfC : Value → ByteArray
  | .string s => s
  | _ => ByteArray.empty
theorem add_parts (a : Addr) (n m : Nat) : (a.add n).add m = a.add (n + m) := by
  unfold Addr.add
  by_cases h : n = 0 <;> by_cases k : m = 0 <;> simp [h, k]
  omega
theorem mz_cases {l : List (Int × Int)} {j : Nat} {u : Value} (h : (mzL l)[j]? = some u) : ∃ k, ∃ hk : k < l.length, (j = k * 2 ∧ u = iv l[k].1) ∨ (j = k * 2 + 1 ∧ u = iv l[k].2) := by
  have hj : j < l.length * 2 := by
    rcases Nat.lt_or_ge j (mzL l).length with h' | h'
    · rw [mzL_len] at h'
      exact h'
    · rw [List.getElem?_eq_none h'] at h
      cases h
  have hk : j / 2 < l.length := by omega
  obtain ⟨h0, h1⟩ := mzL_at l hk
  rcases Nat.mod_two_eq_zero_or_one j with e | e
  · have e : j = j / 2 * 2 := by omega
    rw [← e, h] at h0
    injection h0 with h0
    exact ⟨j / 2, hk, .inl ⟨e, h0⟩⟩
  · have e : j = j / 2 * 2 + 1 := by omega
    rw [← e, h] at h1
    injection h1 with h1
    exact ⟨j / 2, hk, .inr ⟨e, h1⟩⟩
theorem ps_cases {l : List Ps} {j : Nat} {u : Value} (h : (psL l)[j]? = some u) : ∃ k i, ∃ hk : k < l.length, i < 4 ∧ j = k * 4 + i ∧ l[k].cs[i]? = some u := by
  have hj : j < l.length * 4 := by
    rcases Nat.lt_or_ge j (psL l).length with h' | h'
    · rw [psL_len] at h'
      exact h'
    · rw [List.getElem?_eq_none h'] at h
      cases h
  have hk : j / 4 < l.length := by omega
  have hi : j % 4 < 4 := Nat.mod_lt _ (by decide)
  have e : j = j / 4 * 4 + j % 4 := by omega
  have := psL_at l hk hi
  rw [← e, h] at this
  exact ⟨j / 4, j % 4, hk, hi, e, this.symm⟩
theorem open_mz {H : Type} {enc : TypeId × Value → H} {w : World} {b0 : Nat} {r : Reach} {v : Value} {d : DataW H} {p : List MemPlace}
    (hv : Value.okWide Tryz.prog w r b0 24 v) (h : DataW.Trod enc Tryz.prog w 0 (fun _ => true) true 24 v d p) : ∃ (A : Option Addr) (l : List (Int × Int)) (c : Nat), v = .slice A l.length c ∧ Rd w A (mzL l) ∧ l.length ≤ c := by
  obtain ⟨a0, len, cap, rfl⟩ := okWide_slice Tryz.underlying24 hv
  obtain ⟨fuel, hf⟩ := h
  rcases Go.Deep.open_slice_pairs Tryz.underlying24 Tryz.underlying48 (by kernel_rfl) rfl rfl (by kernel_rfl) (by kernel_rfl) hf with ⟨hcs, _⟩ | ⟨a, len', cap', m, n, V0, V1, D0, D1, P0, P1, hcs, _, hl, _, hm, _, hx⟩
  · simp only [Value.cells, List.cons.injEq, Value.slice.injEq, and_true] at hcs
    obtain ⟨rfl, rfl, rfl⟩ := hcs
    exact ⟨none, [], 0, rfl, fun j u hu => by simp [mzL] at hu, Nat.le_refl _⟩
  · simp only [Value.cells, List.cons.injEq, Value.slice.injEq, and_true] at hcs
    obtain ⟨rfl, rfl, rfl⟩ := hcs
    simp only [if_true] at hm
    refine ⟨some a, (List.range len).map fun i => (iOfC (V0 i), iOfC (V1 i)), cap, by simp, fun j u hu => ⟨a, rfl, ?_⟩, by simpa using hl⟩
    obtain ⟨k, hk, hc⟩ := mz_cases hu
    have hk' : k < len := by simpa using hk
    obtain ⟨h0, h1, t0, t1⟩ := hx k (by omega)
    obtain ⟨n0, e0, _, _⟩ := DataW.trod_int Tryz.underlying3 t0
    obtain ⟨n1, e1, _, _⟩ := DataW.trod_int Tryz.underlying3 t1
    simp only [List.cons.injEq, and_true] at e0 e1
    rcases hc with ⟨rfl, rfl⟩ | ⟨rfl, rfl⟩
    · rw [h0, e0]
      simp [iOfC, e0]
    · rw [h1, e1]
      simp [iOfC, e1]
theorem open_slice_fours {H : Type} {enc : TypeId × Value → H} {P : Program} {w : World} {base : Nat} {spare : Nat → Bool} {held : Bool} {t e : TypeId} {f0 f1 f2 f3 : Field} {fuel : Nat} {cs : List Value} {x : DataW H × List MemPlace} (ht : P.underlying t = some (.slice e)) (he : P.underlying e = some (.struct #[f0, f1, f2, f3]))
    (ce : P.cellsOf e = 4) (o0 : f0.offset = 0) (o1 : f1.offset = 1) (o2 : f2.offset = 2) (o3 : f3.offset = 3) (c0 : P.cellsOf f0.type = 1) (c1 : P.cellsOf f1.type = 1) (c2 : P.cellsOf f2.type = 1) (c3 : P.cellsOf f3.type = 1)
    (h : DataW.trod enc P w base spare held fuel t cs = some x) :
    cs = [.slice none 0 0] ∨ ∃ (a : Addr) (len cap m : Nat), cs = [.slice (some a) len cap] ∧ len ≤ cap ∧ m = (if spare a.block then cap else len) ∧
      ∀ i, i < m → ∃ (n : Nat) (v0 v1 v2 v3 : Value) (y0 y1 y2 y3 : DataW H × List MemPlace), w.cell? (a.add (i * 4)) = some v0 ∧ w.cell? (a.add (i * 4 + 1)) = some v1 ∧ w.cell? (a.add (i * 4 + 2)) = some v2 ∧ w.cell? (a.add (i * 4 + 3)) = some v3 ∧
        DataW.trod enc P w base spare held n f0.type [v0] = some y0 ∧ DataW.trod enc P w base spare held n f1.type [v1] = some y1 ∧ DataW.trod enc P w base spare held n f2.type [v2] = some y2 ∧ DataW.trod enc P w base spare held n f3.type [v3] = some y3 := by
  rcases open_slice ht h with h0 | ⟨a, len, cap, m, n, D, Pl, rfl, hb, hl, hm, hmm, rfl, hx⟩
  · exact Or.inl h0.1
  refine Or.inr ⟨a, len, cap, m, rfl, hl, hmm, fun i hi => ?_⟩
  obtain ⟨cs', h1, h2⟩ := hx i hi
  rw [ce] at h1
  obtain ⟨_, hlen, hcell⟩ := World.cells?_some h1
  obtain ⟨xs, k, hk, hxy, _, hxl, hf⟩ := DataW.trod_struct he h2
  match xs, hxl, cs', hlen with
  | [y0, y1, y2, y3], _, [v0, v1, v2, v3], _ =>
    have g0 := hf 0 f0 rfl
    have g1 := hf 1 f1 rfl
    have g2 := hf 2 f2 rfl
    have g3 := hf 3 f3 rfl
    simp [o0, o1, o2, o3, c0, c1, c2, c3] at g0 g1 g2 g3
    have e0 := hcell 0 (by omega)
    have e1 := hcell 1 (by omega)
    have e2 := hcell 2 (by omega)
    have e3 := hcell 3 (by omega)
    rw [add_parts] at e0 e1 e2 e3
    exact ⟨k, v0, v1, v2, v3, y0, y1, y2, y3, by simpa using e0, by simpa using e1, by simpa using e2, by simpa using e3, g0, g1, g2, g3⟩
theorem choose_ps {n : Nat} {p : Nat → Ps → Prop} (h : ∀ i, i < n → ∃ q, p i q) : ∃ f : Nat → Ps, ∀ i, i < n → p i (f i) := by
  classical
  exact ⟨fun i => if hi : i < n then Classical.choose (h i hi) else ⟨ByteArray.empty, 0, 0, 0⟩, fun i hi => by
    simp only [dif_pos hi]
    exact Classical.choose_spec (h i hi)⟩
theorem open_ps {H : Type} {enc : TypeId × Value → H} {w : World} {b0 : Nat} {r : Reach} {v : Value} {d : DataW H} {p : List MemPlace}
    (hv : Value.okWide Tryz.prog w r b0 28 v) (h : DataW.Trod enc Tryz.prog w 0 (fun _ => true) true 28 v d p) : ∃ (A : Option Addr) (l : List Ps) (c : Nat), v = .slice A l.length c ∧ Rd w A (psL l) ∧ l.length ≤ c := by
  obtain ⟨a0, len, cap, rfl⟩ := okWide_slice Tryz.underlying28 hv
  obtain ⟨fuel, hf⟩ := h
  rcases open_slice_fours Tryz.underlying28 Tryz.underlying23 (by kernel_rfl) rfl rfl rfl rfl (by kernel_rfl) (by kernel_rfl) (by kernel_rfl) (by kernel_rfl) hf with hcs | ⟨a, len', cap', m, hcs, hl, hm, hx⟩
  · simp only [Value.cells, List.cons.injEq, Value.slice.injEq, and_true] at hcs
    obtain ⟨rfl, rfl, rfl⟩ := hcs
    exact ⟨none, [], 0, rfl, fun j u hu => by simp [psL] at hu, Nat.le_refl _⟩
  · simp only [Value.cells, List.cons.injEq, Value.slice.injEq, and_true] at hcs
    obtain ⟨rfl, rfl, rfl⟩ := hcs
    simp only [if_true] at hm
    have each : ∀ i, i < len → ∃ q : Ps, w.cell? (a.add (i * 4)) = some (.string q.s) ∧ w.cell? (a.add (i * 4 + 1)) = some (.int .i64 q.y) ∧ w.cell? (a.add (i * 4 + 2)) = some (.int .i64 q.z) ∧ w.cell? (a.add (i * 4 + 3)) = some (.int .i64 q.u) := fun i hi => by
      obtain ⟨n, v0, v1, v2, v3, y0, y1, y2, y3, h0, h1, h2, h3, t0, t1, t2, t3⟩ := hx i (by omega)
      obtain ⟨s0, e0, _⟩ := DataW.trod_string Tryz.underlying9 t0
      obtain ⟨n1, e1, _, _⟩ := DataW.trod_int Tryz.underlying3 t1
      obtain ⟨n2, e2, _, _⟩ := DataW.trod_int Tryz.underlying3 t2
      obtain ⟨n3, e3, _, _⟩ := DataW.trod_int Tryz.underlying3 t3
      simp only [List.cons.injEq, and_true] at e0 e1 e2 e3
      exact ⟨⟨s0, n1, n2, n3⟩, by rw [h0, e0], by rw [h1, e1], by rw [h2, e2], by rw [h3, e3]⟩
    obtain ⟨q, hq⟩ := choose_ps each
    refine ⟨some a, (List.range len).map q, cap, by simp, fun j u hu => ⟨a, rfl, ?_⟩, by simpa using hl⟩
    obtain ⟨k, i, hk, hi, rfl, hc⟩ := ps_cases hu
    have hk' : k < len := by simpa using hk
    obtain ⟨h0, h1, h2, h3⟩ := hq k hk'
    simp only [List.getElem_map, List.getElem_range, Ps.cs] at hc
    rcases i with _ | _ | _ | _ | i
    · rw [Nat.add_zero, h0, ← hc]; rfl
    · rw [h1, ← hc]; rfl
    · rw [h2, ← hc]; rfl
    · rw [h3, ← hc]; rfl
    · omega
end Go.Proofs.YtbdgbihdhbjljaaGreatDoor
