/- A match in memory: its block; a game that is set up; what the calls that change nothing answer. -/
import Derived.Test.YtbdgbihdhbjljaaGreatDoorMatchA
namespace Go.Proofs.YtbdgbihdhbjljaaGreatDoor
open Go.RowKit Go.Shelf
open M (S)

/-- What lies in other blocks is as it was. -/
structure Far (X : Nat → Prop) (w w' : World) : Prop where
  os : w'.os = w.os
  tape : w'.tape = w.tape
  output : w'.output = w.output
  size : w.heap.size ≤ w'.heap.size
  block : ∀ k, k < w.heap.size → ¬ X k → w'.heap[k]? = w.heap[k]?
theorem Far.below {X : Nat → Prop} {w w' : World} (h : Far X w w') {B : Nat} (hX : ∀ k, X k → B ≤ k) (hB : B ≤ w.heap.size) : Below B w w' :=
  ⟨h.os, h.tape, h.output, h.size, fun k hk => h.block k (by omega) fun hx => by have := hX k hx; omega⟩
theorem Far.of {X : Nat → Prop} {w w' : World} (hb : Below w.heap.size w w') : Far X w w' := ⟨hb.os, hb.tape, hb.output, hb.size, fun k hk _ => hb.block k hk⟩
theorem Far.trans {X : Nat → Prop} {w w' w'' : World} (h : Far X w w') (k : Far X w' w'') : Far X w w'' :=
  ⟨k.os.trans h.os, k.tape.trans h.tape, k.output.trans h.output, Nat.le_trans h.size k.size, fun i hi hx => (k.block i (Nat.lt_of_lt_of_le hi h.size) hx).trans (h.block i hi hx)⟩
theorem Far.blk {X : Nat → Prop} {w w' : World} (h : Far X w w') {g : Nat} {t : TypeId} {cs : Array Value} (b : Blk w g t cs) (hx : ¬ X g) : Blk w' g t cs := (h.block g b.lt hx).trans b
theorem Far.set {X : Nat → Prop} {w : World} {p : Addr} (hp : X p.block) (u : Value) : Far X w (w.setCell p u) :=
  ⟨rfl, rfl, rfl, by simp, fun k _ hx => Below.heap_setCell w p u k fun e => hx (by rw [e]; exact hp)⟩
/-- Where a match lies. -/
structure MAt (W : World) (mb : Nat) (p : Ps) (k r : Int) (n : Nat) (A : Option Addr) (c : Nat) (bs : List (Int × Int)) : Prop where
  blk : Blk W mb 69 #[.string p.s, .int .i64 p.y, .int .i64 p.z, .int .i64 p.u, .int .i64 k, .int .i64 r, .int .i64 n, .slice A bs.length c]
  rd : Rd W A (mzL bs)
theorem MAt.next {W W' : World} {mb : Nat} {p : Ps} {k r : Int} {n : Nat} {A : Option Addr} {c : Nat} {bs : List (Int × Int)} (h : MAt W mb p k r n A c bs) (hb : Below W.heap.size W W') : MAt W' mb p k r n A c bs := ⟨h.blk.next hb, h.rd.next hb⟩
theorem m_cells {W : World} {g : Nat} {t : TypeId} {v0 v1 v2 v3 v4 v5 v6 v7 : Value} (h : Blk W g t #[v0, v1, v2, v3, v4, v5, v6, v7]) : W.cell? ⟨g, 0, none⟩ = some v0 ∧ W.cell? ⟨g, 1, none⟩ = some v1 ∧ W.cell? ⟨g, 2, none⟩ = some v2 ∧ W.cell? ⟨g, 3, none⟩ = some v3 ∧ W.cell? ⟨g, 4, none⟩ = some v4 ∧ W.cell? ⟨g, 5, none⟩ = some v5 ∧ W.cell? ⟨g, 6, none⟩ = some v6 ∧ W.cell? ⟨g, 7, none⟩ = some v7 := ⟨h.cell 0, h.cell 1, h.cell 2, h.cell 3, h.cell 4, h.cell 5, h.cell 6, h.cell 7⟩
set_option maxHeartbeats 1000000 in
theorem mnow_is {W : World} {mb : Nat} {p : Ps} {k r : Int} {n : Nat} {A : Option Addr} {c : Nat} {bs : List (Int × Int)} (h : MAt W mb p k r n A c bs) : Calls Tryz.prog 29 #[.pointer (some ⟨mb, 0, none⟩)] W (Gives W (.agg #[.string p.s, .int .i64 p.y, .int .i64 p.z, .int .i64 p.u])) := by
  unfold Gives
  obtain ⟨c0, c1, c2, c3, c4, c5, c6, c7⟩ := m_cells h.blk
  obtain ⟨d0, d1, d2, d3, d4, d5, d6, d7⟩ := m_cells (h.blk.alloc (.cells #[.string ⟨#[]⟩, .int .i64 0, .int .i64 0, .int .i64 0] 23))
  go_enter Tryz.func29, Tryz.ntmps29
  go_wp2
  refine bodyPost_ret (v := .agg #[.string p.s, .int .i64 p.y, .int .i64 p.z, .int .i64 p.u]) (by simp [results, Tryz.results29, go_sem]) rfl ⟨rfl, below_new _ _⟩
set_option maxHeartbeats 1000000 in
theorem mnow_nil (W : World) : Calls Tryz.prog 29 #[.pointer none] W (Gives W (.agg #[.string ⟨#[]⟩, .int .i64 0, .int .i64 0, .int .i64 0])) := by
  unfold Gives
  go_enter Tryz.func29, Tryz.ntmps29
  go_wp2
  refine bodyPost_ret (v := .agg #[.string ⟨#[]⟩, .int .i64 0, .int .i64 0, .int .i64 0]) (by simp [results, Tryz.results29, go_sem]) rfl ⟨rfl, (by repeat (first | exact Below.refl _ _ | (refine Below.setCell ?_ (by first | omega | (simp; done) | (simp; omega) | (simp at *; omega)) _) | (refine Below.alloc ?_ (by first | omega | (simp; done) | (simp; omega) | (simp at *; omega)) _) | refine Below.drew ?_ | (refine below_drewN ?_ _) | (refine Below.trans ?_ (Below.mono (by assumption) (by first | omega | (simp; done) | (simp; omega) | (simp at *; omega))))))⟩
theorem mplies_is {W : World} {mb : Nat} {p : Ps} {k r : Int} {n : Nat} {A : Option Addr} {c : Nat} {bs : List (Int × Int)} (h : MAt W mb p k r n A c bs) : Calls Tryz.prog 30 #[.pointer (some ⟨mb, 0, none⟩)] W (Gives W (.int .i64 n)) := by
  unfold Gives
  obtain ⟨c0, c1, c2, c3, c4, c5, c6, c7⟩ := m_cells h.blk
  go_enter Tryz.func30, Tryz.ntmps30
  go_wp2
  go_ret
  exact ⟨rfl, Below.refl _ _⟩
theorem mplies_nil (W : World) : Calls Tryz.prog 30 #[.pointer none] W (Gives W (.int .i64 0)) := by
  unfold Gives
  go_enter Tryz.func30, Tryz.ntmps30
  go_wp2
  go_ret
  exact ⟨rfl, Below.refl _ _⟩
set_option maxHeartbeats 1000000 in
theorem mverdict_is {W : World} {mb : Nat} {p : Ps} {k r : Int} {n : Nat} {A : Option Addr} {c : Nat} {bs : List (Int × Int)} (h : MAt W mb p k r n A c bs) : Calls Tryz.prog 27 #[.pointer (some ⟨mb, 0, none⟩)] W (Gives W (.agg #[.int .i64 k, .int .i64 r])) := by
  unfold Gives
  obtain ⟨d0, d1, d2, d3, d4, d5, d6, d7⟩ := m_cells (h.blk.alloc (.cells #[.int .i64 0, .int .i64 0] 27))
  go_enter Tryz.func27, Tryz.ntmps27
  go_wp2
  refine bodyPost_ret (v := .agg #[.int .i64 k, .int .i64 r]) (by simp [results, Tryz.results27, go_sem]) rfl ⟨rfl, below_new _ _⟩
set_option maxHeartbeats 1000000 in
theorem mverdict_nil (W : World) : Calls Tryz.prog 27 #[.pointer none] W (Gives W (.agg #[.int .i64 0, .int .i64 0])) := by
  unfold Gives
  go_enter Tryz.func27, Tryz.ntmps27
  go_wp2
  refine bodyPost_ret (v := .agg #[.int .i64 0, .int .i64 0]) (by simp [results, Tryz.results27, go_sem]) rfl ⟨rfl, (by repeat (first | exact Below.refl _ _ | (refine Below.setCell ?_ (by first | omega | (simp; done) | (simp; omega) | (simp at *; omega)) _) | (refine Below.alloc ?_ (by first | omega | (simp; done) | (simp; omega) | (simp at *; omega)) _) | refine Below.drew ?_ | (refine below_drewN ?_ _) | (refine Below.trans ?_ (Below.mono (by assumption) (by first | omega | (simp; done) | (simp; omega) | (simp at *; omega))))))⟩
theorem mended_is {W : World} {mb : Nat} {p : Ps} {k r : Int} {n : Nat} {A : Option Addr} {c : Nat} {bs : List (Int × Int)} (h : MAt W mb p k r n A c bs) (v : Bool) (hv : (k != 0) = v) : Calls Tryz.prog 56 #[.pointer (some ⟨mb, 0, none⟩)] W (Gives W (.bool v)) := by
  unfold Gives
  obtain ⟨c0, c1, c2, c3, c4, c5, c6, c7⟩ := m_cells h.blk
  go_enter Tryz.func56, Tryz.ntmps56
  go_wp2
  go_ret
  exact ⟨by rw [← hv]; rfl, Below.refl _ _⟩
set_option maxHeartbeats 1000000 in
theorem mmay_is {W : World} {mb : Nat} {p : Ps} {k r : Int} {n : Nat} {A : Option Addr} {c : Nat} {bs : List (Int × Int)} (h : MAt W mb p k r n A c bs) (hT : Tab W) (a b : Int) : Calls Tryz.prog 51 #[.pointer (some ⟨mb, 0, none⟩), .agg #[.int .i64 a, .int .i64 b]] W (Gives W (.bool (isV p.s p.y p.z p.u a b))) := by
  unfold Gives
  obtain ⟨W0, hW0⟩ : ∃ W0, W.alloc (.cells #[.int .i64 a, .int .i64 b] 48) = W0 := ⟨_, rfl⟩
  have hB : Below W.heap.size W W0 := by rw [← hW0]; exact below_new _ _
  obtain ⟨d0, d1, d2, d3, d4, d5, d6, d7⟩ := m_cells ((h.next hB).blk)
  have bX : Blk W0 W.heap.size 48 #[.int .i64 a, .int .i64 b] := by rw [← hW0]; exact Blk.new _ _ _ rfl
  have x0 : W0.cell? ⟨W.heap.size, 0, none⟩ = some (.int .i64 a) := bX.cell 0
  have x1 : W0.cell? ⟨W.heap.size, 1, none⟩ = some (.int .i64 b) := bX.cell 1
  have HT := Lib.hid (hT.next hB)
  have HB := Lib.hid hB
  have HW := Lib.hid hW0
  clear hW0 bX hT
  go_enter Tryz.func51, Tryz.ntmps51
  go_wp2
  (try rw [HW.out])
  go_region_with ((go_at_call 90; refine (lis_is p.s p.y p.z p.u a b _ W0.drew (HT.out.next (Below.refl _ _).drew) rfl).mono ?_; rintro e w1 ⟨rfl, hb⟩))
  all_goals
    go_wp2
    go_ret
    exact ⟨rfl, HB.out.trans (((Below.refl _ _).drew.trans hb).mono HB.out.size)⟩
set_option maxHeartbeats 1000000 in
theorem mall_is {W : World} {mb : Nat} {p : Ps} {k r : Int} {n : Nat} {A : Option Addr} {c : Nat} {bs : List (Int × Int)} (h : MAt W mb p k r n A c bs) (hT : Tab W) (l : List (Nat × Nat)) (m : Nat) (hl : legalV p.s p.y p.z p.u = l) (hm : l.length = m) : Calls Tryz.prog 53 #[.pointer (some ⟨mb, 0, none⟩)] W (OwnM W l m) := by
  unfold OwnM
  obtain ⟨c0, c1, c2, c3, c4, c5, c6, c7⟩ := m_cells h.blk
  have HL := Lib.hid (lmoves_own p.s p.y p.z p.u l m W hT hl hm)
  clear hl hm
  go_enter Tryz.func53, Tryz.ntmps53
  go_wp2_with fail
  refine HL.out.mono ?_
  rintro e w1 ⟨v, rfl, ho, hb⟩
  go_wp2
  go_ret
  exact ⟨v, rfl, ho, hb⟩
end Go.Proofs.YtbdgbihdhbjljaaGreatDoor
