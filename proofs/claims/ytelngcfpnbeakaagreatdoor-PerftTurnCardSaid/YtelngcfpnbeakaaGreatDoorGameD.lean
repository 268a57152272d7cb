/- A move is taken back; one is made. -/
import Derived.Test.YtelngcfpnbeakaaGreatDoorGameC
namespace Go.Proofs.YtelngcfpnbeakaaGreatDoor
open Go.RowKit Go.Shelf
open M (S)

theorem unmake_nil (w : World) : Calls Tryz.prog 36 #[.pointer none] w fun e w' => e = .returned (.int .i64 1) ∧ w = w' := by
  go_enter Tryz.func36, Tryz.ntmps36
  go_wp2
  go_ret
  exact ⟨rfl, rfl⟩
set_option maxHeartbeats 2000000 in
theorem unmake_end {n₀ : Nat} {w : World} {g : Nat} {v : Value} {now : Po} (h : GAt n₀ w g v [] now) : Calls Tryz.prog 36 #[.pointer (some ⟨g, 0, none⟩)] w (Gives w (.int .i64 10)) := by
  unfold Gives
  have hp := pop_none h
  unfold Gives at hp
  clear h
  go_enter Tryz.func36, Tryz.ntmps36
  go_wp2_with fail
  refine hp.mono ?_
  rintro e w1 ⟨rfl, hb⟩
  have hB2 := hb.alloc hb.size (.cells #[.int .i64 0, .int .i64 0, .string ⟨#[]⟩, .int .i64 0, .int .i64 0, .int .i64 0] 83)
  go_wp2_with fail
  go_ret
  exact ⟨rfl, hB2⟩
set_option maxRecDepth 100000 in
set_option maxHeartbeats 4000000 in
theorem unmake_is {n₀ : Nat} {w : World} {g : Nat} {v : Value} {st : List Stp} {x : Stp} {now : Po} (h : GAt n₀ w g v (st ++ [x]) now) (hle : st.length ≤ 1024) :
    Calls Tryz.prog 36 #[.pointer (some ⟨g, 0, none⟩)] w (Goes n₀ w g v st x.p (.int .i64 0)) := by
  unfold Goes
  have hp := pop_is h hle
  have hgl := h.lt
  have hgw := h.le
  clear h hle
  go_enter Tryz.func36, Tryz.ntmps36
  go_wp2_with fail
  refine hp.mono ?_
  rintro e w1 ⟨rfl, v', h1, ho, hf⟩
  have hs1 := hf.size
  obtain ⟨W2, hW2⟩ : ∃ W2, w1.alloc (.cells #[.int .i64 x.a, .int .i64 x.b, .string x.p.s, .int .i64 x.p.y, .int .i64 x.p.z, .int .i64 x.p.u] 83) = W2 := ⟨_, rfl⟩
  have hb2 : Below w1.heap.size w1 W2 := by rw [← hW2]; exact (Below.refl _ _).alloc (Nat.le_refl _) _
  have bN : Blk W2 w1.heap.size 83 #[.int .i64 x.a, .int .i64 x.b, .string x.p.s, .int .i64 x.p.y, .int .i64 x.p.z, .int .i64 x.p.u] := by rw [← hW2]; exact Blk.new _ _ _ rfl
  have h2 := h1.next hb2
  have hf2 := hf.trans (Far.of hb2)
  obtain ⟨n2, n3, n4, n5⟩ : W2.cell? ⟨w1.heap.size, 2, none⟩ = some (.string x.p.s) ∧ W2.cell? ⟨w1.heap.size, 3, none⟩ = some (.int .i64 x.p.y) ∧ W2.cell? ⟨w1.heap.size, 4, none⟩ = some (.int .i64 x.p.z) ∧ W2.cell? ⟨w1.heap.size, 5, none⟩ = some (.int .i64 x.p.u) := ⟨bN.cell 2, bN.cell 3, bN.cell 4, bN.cell 5⟩
  obtain ⟨c0, c1, c2, c3, c4⟩ := gcells h2.blk
  obtain ⟨f0, f1, f2, f3, f4, _⟩ := gfrozen h2.blk
  obtain ⟨W3, hW3⟩ : ∃ W3, ((((W2.setCell ⟨g, 1, none⟩ (.string x.p.s)).setCell ⟨g, 2, none⟩ (.int .i64 x.p.y)).setCell ⟨g, 3, none⟩ (.int .i64 x.p.z)).setCell ⟨g, 4, none⟩ (.int .i64 x.p.u)) = W3 := ⟨_, rfl⟩
  have b3 : Blk W3 g 63 #[v', .string x.p.s, .int .i64 x.p.y, .int .i64 x.p.z, .int .i64 x.p.u] := by rw [← hW3]; exact (((h2.blk.set_ 1 (.string x.p.s)).set_ 2 (.int .i64 x.p.y)).set_ 3 (.int .i64 x.p.z)).set_ 4 (.int .i64 x.p.u)
  have hf3 : Far (OfG g v) w W3 := by rw [← hW3]; exact (((hf2.trans (Far.set (p := ⟨g, 1, none⟩) (Or.inl rfl) _)).trans (Far.set (p := ⟨g, 2, none⟩) (Or.inl rfl) _)).trans (Far.set (p := ⟨g, 3, none⟩) (Or.inl rfl) _)).trans (Far.set (p := ⟨g, 4, none⟩) (Or.inl rfl) _)
  have hr3 : W3.ownsRow n₀ 83 6 v' st.length (stepsL st) := by
    refine row_next h2.row (fun k _ e => ?_)
    have hk : k ≠ g := by have := (h2.own e).1; omega
    rw [← hW3, Below.heap_setCell _ _ _ _ hk, Below.heap_setCell _ _ _ _ hk, Below.heap_setCell _ _ _ _ hk, Below.heap_setCell _ _ _ _ hk]
  have HEND := Lib.hid (And.intro b3 (And.intro hr3 hf3))
  clear b3 hr3 hf3 h2 hf2 hb2 bN h1 hf
  go_wp2_with fail
  go_ret
  obtain ⟨b3, hr3, hf3⟩ := HEND.out
  exact ⟨rfl, v', ⟨b3, hr3, hgl, Nat.le_trans hgw hf3.size⟩, ho, hf3⟩
end Go.Proofs.YtelngcfpnbeakaaGreatDoor
