/- How many lines of any depth there are, or why none are counted: the call answers true. -/
import Derived.Test.YtelngcfpnbeakaaGreatDoorPerftK
namespace Go.Proofs.YtelngcfpnbeakaaGreatDoor.pcounts
open Go.RowKit Go.Shelf
open M (S)

set_option maxRecDepth 100000 in
set_option maxHeartbeats 8000000 in
theorem walk (s : ByteArray) (y z u depth : Int) (w : World) (hT : Tab w) : Calls Tryz.prog 3 #[.agg #[.string s, .int .i64 y, .int .i64 z, .int .i64 u], .int .i64 depth] w (Gives w (.bool true)) := by
  unfold Gives
  obtain ⟨W0, hW0⟩ : ∃ W0, w.alloc (.cells #[.string s, .int .i64 y, .int .i64 z, .int .i64 u] 23) = W0 := ⟨_, rfl⟩
  have hB : Below w.heap.size w W0 := by rw [← hW0]; exact (by repeat (first | exact Below.refl _ _ | (refine Below.setCell ?_ (by first | omega | (simp; done) | (simp; omega) | (simp at *; omega)) _) | (refine Below.alloc ?_ (by first | omega | (simp; done) | (simp; omega) | (simp at *; omega)) _) | refine Below.drew ?_ | (refine below_drewN ?_ _) | (refine Below.trans ?_ (Below.mono (by assumption) (by first | omega | (simp; done) | (simp; omega) | (simp at *; omega))))))
  have bP : Blk W0 w.heap.size 23 #[.string s, .int .i64 y, .int .i64 z, .int .i64 u] := by rw [← hW0]; exact Blk.new _ _ _ rfl
  replace hT := hT.below hB hT.lt
  have HW := Lib.hid hW0
  clear hW0
  obtain ⟨p0, p1, p2, p3⟩ := ppos_cells bP
  go_enter Tryz.func3, Tryz.ntmps3
  go_wp2_with fail
  rw [HW.out]
  refine (few_any s y z u depth _).mono ?_
  rintro e w1 ⟨b, rfl, hfew, hb⟩
  replace hT := hT.next hb
  replace bP := bP.next hb
  replace hB := hB.trans (hb.mono hB.size)
  clear hb p0 p1 p2 p3
  obtain ⟨p0, p1, p2, p3⟩ := ppos_cells bP
  cases b
  · clear hfew
    go_wp2_with fail
    refine (live11_any _ hT).mono ?_
    rintro e w9 ⟨rfl, hb⟩
    go_wp2
    go_ret
    exact ⟨rfl, hB.trans (hb.mono hB.size)⟩
  · obtain ⟨_, hd⟩ := hfew rfl
    obtain ⟨a, ha⟩ : ∃ a, (if beginN (wellN s y z u) depth 0 = 0 then (linesN depth.toNat s y : Int) else 0) = a := ⟨_, rfl⟩
    obtain ⟨k, hk⟩ : ∃ k, beginN (wellN s y z u) depth 0 = k := ⟨_, rfl⟩
    have hv : countV s y z u depth = .tuple #[.int .i64 a, .int .i64 k] := by unfold countV; rw [ha, hk]
    have HC := Lib.hid (fun W hW => pcount_is s y z u depth a k W hW hd hv)
    have HR : Hid (∀ W, Calls Tryz.prog 8 #[.agg #[.string s, .int .i64 y, .int .i64 z, .int .i64 u], .int .i64 depth] W (Gives W (.tuple #[.int .i64 a, .int .i64 k]))) := fun W => by
      rw [← hv]
      exact rpcount_any s y z u depth W (by omega)
    clear ha hk hv hd hfew
    go_wp2_with fail
    refine (HC.out _ hT).mono ?_
    rintro e w2 ⟨rfl, hb⟩
    replace hT := hT.next hb
    replace bP := bP.next hb
    replace hB := hB.trans (hb.mono hB.size)
    clear hb p0 p1 p2 p3
    obtain ⟨p0, p1, p2, p3⟩ := ppos_cells bP
    go_wp2_with fail
    refine (HR.out _).mono ?_
    rintro e w3 ⟨rfl, hb⟩
    replace hT := hT.next hb
    replace hB := hB.trans (hb.mono hB.size)
    clear hb p0 p1 p2 p3 bP
    go_wp2_with fail
    refine (live11_any _ hT).mono ?_
    rintro e w9 ⟨rfl, hb⟩
    go_wp2
    go_ret
    exact ⟨rfl, hB.trans (hb.mono hB.size)⟩
end Go.Proofs.YtelngcfpnbeakaaGreatDoor.pcounts
