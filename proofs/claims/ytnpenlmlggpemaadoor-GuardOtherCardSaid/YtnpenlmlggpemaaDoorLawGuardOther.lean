/- A move of one side is none of the other one; what nobody could make nobody guards: the call answers true. -/
import Derived.Test.YtnpenlmlggpemaaDoorGuardV
namespace Go.Proofs.YtnpenlmlggpemaaDoor.gother
open Go.RowKit Go.Shelf
open M (S)

set_option maxRecDepth 100000 in
set_option maxHeartbeats 8000000 in
theorem large (s : ByteArray) (a b : Int) (w : World) (hT : Tab w) (hs : 200 < s.size) : Calls Tryd.prog 5 #[.string s, .agg #[.int .i64 a, .int .i64 b]] w (Gives w (.bool true)) := by
  unfold Gives
  have hd : decide (200 < (s.size : Int)) = true := by simp; omega
  clear hs
  go_enter Tryd.func5, Tryd.ntmps5
  go_wp2_with fail
  obtain ⟨W0, hW0⟩ : ∃ W0, w.alloc (.cells #[.int .i64 a, .int .i64 b] 29) = W0 := ⟨_, rfl⟩
  have hB : Below w.heap.size w W0 := by rw [← hW0]; exact (by repeat (first | exact Below.refl _ _ | (refine Below.setCell ?_ (by first | omega | (simp; done) | (simp; omega) | (simp at *; omega)) _) | (refine Below.alloc ?_ (by first | omega | (simp; done) | (simp; omega) | (simp at *; omega)) _) | refine Below.drew ?_ | (refine below_drewN ?_ _) | (refine Below.trans ?_ (Below.mono (by assumption) (by first | omega | (simp; done) | (simp; omega) | (simp at *; omega))))))
  replace hT := hT.below hB hT.lt
  rw [hW0]
  refine (live15_any _ hT).mono ?_
  rintro e w9 ⟨rfl, hb⟩
  go_wp2
  go_ret
  exact ⟨rfl, hB.trans (hb.mono hB.size)⟩
set_option maxRecDepth 100000 in
set_option maxHeartbeats 8000000 in
theorem small (s : ByteArray) (a b : Int) (w : World) (hT : Tab w) (hs : s.size ≤ 200) : Calls Tryd.prog 5 #[.string s, .agg #[.int .i64 a, .int .i64 b]] w (Gives w (.bool true)) := by
  unfold Gives
  have hd : decide (200 < (s.size : Int)) = false := by simp; omega
  clear hs
  obtain ⟨W0, hW0⟩ : ∃ W0, w.alloc (.cells #[.int .i64 a, .int .i64 b] 29) = W0 := ⟨_, rfl⟩
  have hB : Below w.heap.size w W0 := by rw [← hW0]; exact (by repeat (first | exact Below.refl _ _ | (refine Below.setCell ?_ (by first | omega | (simp; done) | (simp; omega) | (simp at *; omega)) _) | (refine Below.alloc ?_ (by first | omega | (simp; done) | (simp; omega) | (simp at *; omega)) _) | refine Below.drew ?_ | (refine below_drewN ?_ _) | (refine Below.trans ?_ (Below.mono (by assumption) (by first | omega | (simp; done) | (simp; omega) | (simp at *; omega))))))
  have bM : Blk W0 w.heap.size 29 #[.int .i64 a, .int .i64 b] := by rw [← hW0]; exact Blk.new _ _ _ rfl
  have m0 : W0.cell? ⟨w.heap.size, 0, none⟩ = some (.int .i64 a) := bM.cell 0
  have m1 : W0.cell? ⟨w.heap.size, 1, none⟩ = some (.int .i64 b) := bM.cell 1
  replace hT := hT.below hB hT.lt
  have HW := Lib.hid hW0
  clear hW0 bM
  have H2 : Hid (couldI s 2 a b = false) := couldI_none (by omega)
  have H9 : Hid (couldI s (-1) a b = false) := couldI_none (by omega)
  obtain ⟨x, hx⟩ : ∃ x, couldI s 0 a b = x := ⟨_, rfl⟩
  obtain ⟨y, hy⟩ : ∃ y, couldI s 1 a b = y := ⟨_, rfl⟩
  obtain ⟨z, hz⟩ : ∃ z, guardI s a b = z := ⟨_, rfl⟩
  have hxy : x = true → y = false := fun h => by
    subst h
    rw [← hy]
    exact could_one hx
  have hzz : x = false → y = false → z = false := fun h1 h2 => by
    cases z
    · rfl
    · have h3 := guardI_could hz
      have := could_sides (couldI_parts h3).2.2.2
      rcases this with e | e
      · rw [e, hx, h1] at h3
        cases h3
      · rw [e, hy, h2] at h3
        cases h3
  have HX := Lib.hid hx
  have HY := Lib.hid hy
  have HZ := Lib.hid hz
  clear hx hy hz
  go_enter Tryd.func5, Tryd.ntmps5
  go_wp2_with fail
  rw [HW.out]
  refine (gcan_is s 0 a b x _ hT HX.out).mono ?_
  rintro e w1 ⟨rfl, hb⟩
  obtain ⟨m0, m1, hB⟩ := mv2_keep ⟨m0, m1, hB⟩ hb
  replace hT := hT.next hb
  clear hb
  go_wp2_with fail
  refine (gcan_is s 1 a b y _ hT HY.out).mono ?_
  rintro e w1 ⟨rfl, hb⟩
  obtain ⟨m0, m1, hB⟩ := mv2_keep ⟨m0, m1, hB⟩ hb
  replace hT := hT.next hb
  clear hb
  cases x <;> cases y
  · obtain rfl := hzz rfl rfl
    clear hxy hzz
    go_wp2_with fail
    refine (gguard_is s a b false _ hT HZ.out).mono ?_
    rintro e w1 ⟨rfl, hb⟩
    obtain ⟨m0, m1, hB⟩ := mv2_keep ⟨m0, m1, hB⟩ hb
    replace hT := hT.next hb
    clear hb
    go_wp2_with fail
    refine (gcan_is s 2 a b false _ hT H2.out).mono ?_
    rintro e w1 ⟨rfl, hb⟩
    obtain ⟨m0, m1, hB⟩ := mv2_keep ⟨m0, m1, hB⟩ hb
    replace hT := hT.next hb
    clear hb
    go_wp2_with fail
    refine (gcan_is s (-1) a b false _ hT H9.out).mono ?_
    rintro e w1 ⟨rfl, hb⟩
    obtain ⟨m0, m1, hB⟩ := mv2_keep ⟨m0, m1, hB⟩ hb
    replace hT := hT.next hb
    clear hb
    go_wp2_with fail
    refine (live15_any _ hT).mono ?_
    rintro e w9 ⟨rfl, hb⟩
    go_wp2
    go_ret
    exact ⟨rfl, hB.trans (hb.mono hB.size)⟩
  · clear hxy hzz
    go_wp2_with fail
    refine (gcan_is s 2 a b false _ hT H2.out).mono ?_
    rintro e w1 ⟨rfl, hb⟩
    obtain ⟨m0, m1, hB⟩ := mv2_keep ⟨m0, m1, hB⟩ hb
    replace hT := hT.next hb
    clear hb
    go_wp2_with fail
    refine (gcan_is s (-1) a b false _ hT H9.out).mono ?_
    rintro e w1 ⟨rfl, hb⟩
    obtain ⟨m0, m1, hB⟩ := mv2_keep ⟨m0, m1, hB⟩ hb
    replace hT := hT.next hb
    clear hb
    go_wp2_with fail
    refine (live15_any _ hT).mono ?_
    rintro e w9 ⟨rfl, hb⟩
    go_wp2
    go_ret
    exact ⟨rfl, hB.trans (hb.mono hB.size)⟩
  · clear hxy hzz
    go_wp2_with fail
    refine (gcan_is s 2 a b false _ hT H2.out).mono ?_
    rintro e w1 ⟨rfl, hb⟩
    obtain ⟨m0, m1, hB⟩ := mv2_keep ⟨m0, m1, hB⟩ hb
    replace hT := hT.next hb
    clear hb
    go_wp2_with fail
    refine (gcan_is s (-1) a b false _ hT H9.out).mono ?_
    rintro e w1 ⟨rfl, hb⟩
    obtain ⟨m0, m1, hB⟩ := mv2_keep ⟨m0, m1, hB⟩ hb
    replace hT := hT.next hb
    clear hb
    go_wp2_with fail
    refine (live15_any _ hT).mono ?_
    rintro e w9 ⟨rfl, hb⟩
    go_wp2
    go_ret
    exact ⟨rfl, hB.trans (hb.mono hB.size)⟩
  · exact absurd (hxy rfl) (by decide)
theorem walk (s : ByteArray) (a b : Int) (w : World) (hT : Tab w) : Calls Tryd.prog 5 #[.string s, .agg #[.int .i64 a, .int .i64 b]] w (Gives w (.bool true)) := by
  by_cases hs : s.size ≤ 200
  · exact small s a b w hT hs
  · exact large s a b w hT (by omega)
end Go.Proofs.YtnpenlmlggpemaaDoor.gother
