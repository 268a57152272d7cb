/- A table that is none has nothing: the call answers true. -/
import Derived.Test.YtgmbigdkipkibaaTabL
namespace Go.Proofs.Ytgmbigdkipkibaa.tnil
open Go.RowKit Go.Shelf
attribute [local go_sem] Oper.semAt_some

theorem own0 (k : Nat) (d s u a b : Int) (W : World) : Calls Try.prog 10 #[.agg #[.int .u64 k, .int .i64 d, .int .i64 s, .int .i64 u, .int .i64 a, .int .i64 b]] W (Gives W (.agg #[.int .u64 k, .int .i64 d, .int .i64 s, .int .i64 u, .int .i64 a, .int .i64 b])) := own_is ⟨k, d, s, u, a, b⟩ W
theorem put0 (k : Nat) (d s u a b : Int) (W : World) : Calls Try.prog 9 #[.pointer none, .agg #[.int .u64 k, .int .i64 d, .int .i64 s, .int .i64 u, .int .i64 a, .int .i64 b]] W (Gives W (.bool false)) := put_nil ⟨k, d, s, u, a, b⟩ W
theorem get0 (k : Nat) (W : World) : Calls Try.prog 12 #[.pointer none, .int .u64 k] W (Gives W (.tuple #[.agg #[.int .u64 0, .int .i64 0, .int .i64 0, .int .i64 0, .int .i64 0, .int .i64 0], .bool false])) := get_nil k W
theorem use0 (k : Nat) (d : Int) (W : World) : Calls Try.prog 14 #[.pointer none, .int .u64 k, .int .i64 d, .int .i64 0, .int .i64 0] W (Gives W (.tuple #[.int .i64 0, .bool false])) := use_of none k W none (get_nil k W) d 0 0
set_option maxRecDepth 100000 in
set_option maxHeartbeats 4000000 in
theorem walk (k : Nat) (d s u a b : Int) (w : World) : Calls Try.prog 5 #[.agg #[.int .u64 k, .int .i64 d, .int .i64 s, .int .i64 u, .int .i64 a, .int .i64 b]] w (Gives w (.bool true)) := by
  unfold Gives
  obtain ⟨W0, hW0⟩ : ∃ W0, w.alloc (.cells #[.int .u64 k, .int .i64 d, .int .i64 s, .int .i64 u, .int .i64 a, .int .i64 b] 36) = W0 := ⟨_, rfl⟩
  have hB : Below w.heap.size w W0 := by rw [← hW0]; exact below_new _ _
  have bE : Blk W0 w.heap.size 36 (Ent.mk k d s u a b).cs := by rw [← hW0]; exact Blk.new _ _ _ rfl
  obtain ⟨e0, e1, e2, e3, e4, e5⟩ := ent_cells bE
  simp only at e0 e1 e2 e3 e4 e5
  go_enter Try.func5, Try.ntmps5
  go_wp2_with fail
  (try rw [hW0])
  refine (get0 k _).mono ?_
  rintro e w1 ⟨rfl, hb⟩
  have hB1 := hB.trans (hb.mono hB.size)
  have bE1 := bE.next hb
  have hn : Below w1.heap.size w1 (w1.alloc (.cells #[.int .u64 0, .int .i64 0, .int .i64 0, .int .i64 0, .int .i64 0, .int .i64 0] 40)) := below_new _ _
  have hE1 := bE1.next hn
  have HX := Lib.hid (Blk.new w1 40 #[.int .u64 0, .int .i64 0, .int .i64 0, .int .i64 0, .int .i64 0, .int .i64 0] rfl)
  have HB2 := Lib.hid (hB1.trans (hn.mono hB1.size))
  have HE2 := Lib.hid hE1
  clear e0 e1 e2 e3 e4 e5 hb hW0 bE hB hB1
  obtain ⟨e0, e1, e2, e3, e4, e5⟩ := ent_cells hE1
  simp only at e0 e1 e2 e3 e4 e5
  clear hE1 hn bE1
  go_wp2_with fail
  refine (use0 k d _).mono ?_
  rintro e w2 ⟨rfl, hb⟩
  have HB3 := Lib.hid (HB2.out.trans (hb.mono HB2.out.size))
  have HE3 := Lib.hid (HE2.out.next hb)
  have HX3 := Lib.hid (HX.out.next hb)
  clear hb e0 e1 e2 e3 e4 e5
  go_wp2_with fail
  refine (clear_nil _).mono ?_
  rintro e w3 ⟨rfl, rfl⟩
  obtain ⟨e0, e1, e2, e3, e4, e5⟩ := ent_cells HE3.out
  simp only at e0 e1 e2 e3 e4 e5
  go_wp2_with fail
  refine (own0 k d s u a b _).mono ?_
  rintro e w4 ⟨rfl, hb⟩
  have HB4 := Lib.hid (HB3.out.trans (hb.mono HB3.out.size))
  have HX4 := Lib.hid (HX3.out.next hb)
  clear hb e0 e1 e2 e3 e4 e5
  go_wp2_with fail
  refine (put0 k d s u a b _).mono ?_
  rintro e w5 ⟨rfl, hb⟩
  have HB5 := Lib.hid (HB4.out.trans (hb.mono HB4.out.size))
  obtain ⟨⟨x0, x1, x2, x3, x4, x5⟩, _⟩ := e0_cells (HX4.out.next hb)
  clear hb
  go_wp2_with fail
  refine (tcount_nil _).mono ?_
  rintro e w6 ⟨rfl, hb⟩
  have HB6 := Lib.hid (HB5.out.trans (hb.mono HB5.out.size))
  clear hb
  go_wp2_with fail
  refine (live20_any _).mono ?_
  rintro e w7 ⟨rfl, hb⟩
  have HB7 := Lib.hid (HB6.out.trans (hb.mono HB6.out.size))
  clear hb
  go_wp2_with fail
  go_ret
  exact ⟨rfl, HB7.out⟩
end Go.Proofs.Ytgmbigdkipkibaa.tnil
