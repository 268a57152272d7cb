/- What the document says of a table, told by the code: live20. -/
import Derived.Test.YtgmbigdkipkibaaTabB
namespace Go.Proofs.Ytgmbigdkipkibaa
open Go.RowKit Go.Shelf
attribute [local go_sem] Oper.semAt_some

def x4 : Ent := ⟨4, 3, 7, 0, 0, 0⟩
def x6 : Ent := ⟨6, 2, 0, 0, 0, 0⟩
abbrev fN : Nat → Option Ent := fun _ => none
abbrev f4 : Nat → Option Ent := putF fN 0 x4
theorem l20_put4 {W : World} {tb sb : Nat} (h : TabAt W tb sb 2 fN) : Calls Try.prog 9 #[.pointer (some ⟨tb, 0, none⟩), .agg #[.int .u64 4, .int .i64 3, .int .i64 7, .int .i64 0, .int .i64 0, .int .i64 0]] W fun e w' => e = .returned (.bool true) ∧ TabAt w' tb sb 2 f4 ∧ Far (· = sb) W w' := put_is h x4 (by decide) true rfl
theorem l20_put6 {W : World} {tb sb : Nat} (h : TabAt W tb sb 2 f4) : Calls Try.prog 9 #[.pointer (some ⟨tb, 0, none⟩), .agg #[.int .u64 6, .int .i64 2, .int .i64 0, .int .i64 0, .int .i64 0, .int .i64 0]] W fun e w' => e = .returned (.bool false) ∧ TabAt w' tb sb 2 f4 ∧ Far (· = sb) W w' := put_is h x6 (by decide) false rfl
theorem l20_get4 {W : World} {tb sb : Nat} (h : TabAt W tb sb 2 f4) : Calls Try.prog 12 #[.pointer (some ⟨tb, 0, none⟩), .int .u64 4] W (Gives W (.tuple #[.agg #[.int .u64 4, .int .i64 3, .int .i64 7, .int .i64 0, .int .i64 0, .int .i64 0], .bool true])) := get_is h 4 (by decide) (some x4) rfl
theorem l20_get6 {W : World} {tb sb : Nat} (h : TabAt W tb sb 2 f4) : Calls Try.prog 12 #[.pointer (some ⟨tb, 0, none⟩), .int .u64 6] W (Gives W (.tuple #[.agg #[.int .u64 0, .int .i64 0, .int .i64 0, .int .i64 0, .int .i64 0, .int .i64 0], .bool false])) := get_is h 6 (by decide) none rfl
theorem l20_use {W : World} {tb sb : Nat} (h : TabAt W tb sb 2 f4) : Calls Try.prog 14 #[.pointer (some ⟨tb, 0, none⟩), .int .u64 4, .int .i64 3, .int .i64 0, .int .i64 0] W (Gives W (.tuple #[.int .i64 7, .bool true])) := use_of _ 4 W (some x4) (get_is h 4 (by decide) (some x4) rfl) 3 0 0
theorem l20_deep {W : World} {tb sb : Nat} (h : TabAt W tb sb 2 f4) : Calls Try.prog 14 #[.pointer (some ⟨tb, 0, none⟩), .int .u64 4, .int .i64 4, .int .i64 0, .int .i64 0] W (Gives W (.tuple #[.int .i64 0, .bool false])) := use_of _ 4 W (some x4) (get_is h 4 (by decide) (some x4) rfl) 4 0 0
theorem l20_count {W : World} {tb sb : Nat} (h : TabAt W tb sb 2 f4) : Calls Try.prog 17 #[.pointer (some ⟨tb, 0, none⟩)] W (Gives W (.int .i64 1)) := tcount_is h
theorem l20_count0 {W : World} {tb sb : Nat} (h : TabAt W tb sb 2 fN) : Calls Try.prog 17 #[.pointer (some ⟨tb, 0, none⟩)] W (Gives W (.int .i64 0)) := tcount_is h
/-- Where a table stands behind some calls. -/
structure TabF (w W : World) (tb sb n : Nat) (f : Nat → Option Ent) : Prop where
  t : TabAt W tb sb n f
  b : Below w.heap.size w W
  tl : w.heap.size ≤ tb
  sl : w.heap.size ≤ sb
theorem TabF.next {w W W' : World} {tb sb n : Nat} {f : Nat → Option Ent} (h : TabF w W tb sb n f) (hb : Below W.heap.size W W') : TabF w W' tb sb n f := ⟨h.t.next hb, h.b.trans (hb.mono h.b.size), h.tl, h.sl⟩
theorem TabF.to {w W W' : World} {tb sb n : Nat} {f g : Nat → Option Ent} (h : TabF w W tb sb n f) (ht : TabAt W' tb sb n g) (hf : Far (· = sb) W W') : TabF w W' tb sb n g := ⟨ht, h.b.trans (hf.below (fun k hk => by rw [hk]; exact h.sl) h.b.size), h.tl, h.sl⟩
set_option maxRecDepth 100000 in
set_option maxHeartbeats 4000000 in
theorem live20_any (w : World) : Calls Try.prog 7 #[] w (Gives w (.bool true)) := by
  unfold Gives
  go_enter Try.func7, Try.ntmps7
  go_wp2_with fail
  refine (tnew_is 2 _ (by decide) (by decide)).mono ?_
  rintro e w1 ⟨tb, sb, rfl, h1, h2, h3, h4⟩
  have H1 := Lib.hid (show TabF w w1 tb sb 2 fN from ⟨h1, h4, h2, h3⟩)
  clear h1 h2 h3 h4
  go_wp2_with fail
  refine (tnew_bad 0 _ (by decide)).mono ?_
  rintro e w2 ⟨rfl, hb⟩
  have H2 := Lib.hid (H1.out.next hb)
  clear hb
  go_wp2_with fail
  refine (l20_put4 H2.out.t).mono ?_
  rintro e w3 ⟨rfl, h1, h2⟩
  have H3 := Lib.hid (H2.out.to h1 h2)
  clear h1 h2
  go_wp2_with fail
  refine (l20_put6 H3.out.t).mono ?_
  rintro e w4 ⟨rfl, h1, h2⟩
  have H4 := Lib.hid (H3.out.to h1 h2)
  clear h1 h2
  go_wp2_with fail
  refine (l20_get4 H4.out.t).mono ?_
  rintro e w5 ⟨rfl, hb⟩
  have H5 := Lib.hid (H4.out.next hb)
  clear hb
  obtain ⟨W5, hW5⟩ : ∃ x, w5.alloc (.cells x4.cs 40) = x := ⟨_, rfl⟩
  have bX : Blk W5 w5.heap.size 40 x4.cs := by rw [← hW5]; exact Blk.new _ _ _ rfl
  have HB5 := Lib.hid bX
  have H5a : Hid (TabF w W5 tb sb 2 f4) := by rw [← hW5]; exact H5.out.next (below_new _ _)
  have HW5 : Hid (w5.alloc (.cells #[.int .u64 4, .int .i64 3, .int .i64 7, .int .i64 0, .int .i64 0, .int .i64 0] 40) = W5) := hW5
  clear bX hW5
  go_wp2_with fail
  (try rw [HW5.out])
  refine (l20_get6 H5a.out.t).mono ?_
  rintro e w6 ⟨rfl, hb⟩
  have H6 := Lib.hid (H5a.out.next hb)
  have HB6 := Lib.hid (HB5.out.next hb)
  clear hb
  have H6a := Lib.hid (H6.out.next (below_new w6 (.cells E0 40)))
  have HB6a := Lib.hid (HB6.out.next (below_new w6 (.cells E0 40)))
  go_wp2_with fail
  refine (l20_use H6a.out.t).mono ?_
  rintro e w7 ⟨rfl, hb⟩
  have H7 := Lib.hid (H6a.out.next hb)
  have HB7 := Lib.hid (HB6a.out.next hb)
  clear hb
  go_wp2_with fail
  refine (l20_deep H7.out.t).mono ?_
  rintro e w8 ⟨rfl, hb⟩
  have H8 := Lib.hid (H7.out.next hb)
  have HB8 := Lib.hid (HB7.out.next hb)
  clear hb
  go_wp2_with fail
  refine (l20_count H8.out.t).mono ?_
  rintro e w9 ⟨rfl, hb⟩
  have H9 := Lib.hid (H8.out.next hb)
  have HB9 := Lib.hid (HB8.out.next hb)
  clear hb
  go_wp2_with fail
  refine (clear_is H9.out.t).mono ?_
  rintro e w10 ⟨rfl, h1, h2⟩
  have H10 := Lib.hid (H9.out.to h1 h2)
  have hX : Blk w10 w5.heap.size 40 x4.cs := h2.blk HB9.out (by have := H5.out.t.slots.lt; show ¬ w5.heap.size = sb; omega)
  obtain ⟨e0, e1, e2, e3, e4, e5⟩ := ent_cells hX
  replace e2 : w10.cell? ⟨w5.heap.size, 2, none⟩ = some (.int .i64 7) := e2
  clear h1 h2 hX e0 e1 e3 e4 e5
  go_wp2_with fail
  refine (l20_count0 H10.out.t).mono ?_
  rintro e w11 ⟨rfl, hb⟩
  have H11 := Lib.hid (H10.out.next hb)
  clear hb
  go_wp2_with fail
  go_ret
  exact ⟨rfl, H11.out.b⟩
end Go.Proofs.Ytgmbigdkipkibaa
