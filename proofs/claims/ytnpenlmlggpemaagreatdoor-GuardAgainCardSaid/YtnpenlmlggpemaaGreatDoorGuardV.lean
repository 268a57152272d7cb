/- The document's own examples of layer 15 hold. -/
import Derived.Test.YtnpenlmlggpemaaGreatDoorGuardE
import Derived.Test.YtnpenlmlggpemaaGreatDoorGuardL
namespace Go.Proofs.YtnpenlmlggpemaaGreatDoor
open Go.RowKit Go.Shelf
open M (S)

set_option maxRecDepth 100000 in
set_option maxHeartbeats 8000000 in
theorem live15_any (w : World) (hT : Tab w) : Calls Tryz.prog 11 #[] w (Gives w (.bool true)) := by
  unfold Gives
  have H0 := Lib.hid start_takes
  have H1 := Lib.hid start_g1
  have H2 := Lib.hid start_g2
  have H3 := Lib.hid start_c1
  have H4 := Lib.hid start_c2
  have H5 := Lib.hid empty_takes
  go_enter Tryz.func11, Tryz.ntmps11
  go_wp2_with fail
  have hlit : (⟨#[82, 78, 66, 65, 75, 65, 66, 78, 82, 46, 46, 46, 46, 46, 46, 46, 46, 46, 46, 67, 46, 46, 46, 46, 46, 67, 46, 80, 46, 80, 46, 80, 46, 80, 46, 80, 46, 46, 46, 46, 46, 46, 46, 46, 46, 46, 46, 46, 46, 46, 46, 46, 46, 46, 112, 46, 112, 46, 112, 46, 112, 46, 112, 46, 99, 46, 46, 46, 46, 46, 99, 46, 46, 46, 46, 46, 46, 46, 46, 46, 46, 114, 110, 98, 97, 107, 97, 98, 110, 114]⟩ : ByteArray) = startS := rfl
  generalize startS = st at H0 H1 H2 H3 H4 hlit
  try simp only [hlit]
  refine (gtakes_is st 0 _ 2 _ hT H0.out rfl).mono ?_
  rintro e w1 ⟨v, rfl, ho, hb⟩
  obtain ⟨A, c, rfl⟩ := owns_slice ho
  obtain ⟨g1, o1, rfl, c0, c1⟩ := (Rd.owns ho).move (k := 0) (by decide)
  replace c0 : w1.cell? ⟨g1, o1, none⟩ = some (.int .i64 19) := c0
  replace c1 : w1.cell? ⟨g1, o1 + 1, none⟩ = some (.int .i64 82) := c1
  have hB := hb
  replace hT := hT.next hb
  clear ho hb
  go_wp2_with fail
  try simp only [hlit]
  refine (gguard_is st 19 82 true _ hT H1.out).mono ?_
  rintro e w2 ⟨rfl, hb⟩
  replace hB := hB.trans (hb.mono hB.size)
  replace hT := hT.next hb
  clear hb c0 c1
  go_wp2_with fail
  try simp only [hlit]
  refine (gguard_is st 19 20 false _ hT H2.out).mono ?_
  rintro e w2 ⟨rfl, hb⟩
  replace hB := hB.trans (hb.mono hB.size)
  replace hT := hT.next hb
  clear hb
  go_wp2_with fail
  try simp only [hlit]
  refine (gcan_is st 1 64 1 true _ hT H3.out).mono ?_
  rintro e w2 ⟨rfl, hb⟩
  replace hB := hB.trans (hb.mono hB.size)
  replace hT := hT.next hb
  clear hb
  go_wp2_with fail
  try simp only [hlit]
  refine (gcan_is st 0 64 1 false _ hT H4.out).mono ?_
  rintro e w2 ⟨rfl, hb⟩
  replace hB := hB.trans (hb.mono hB.size)
  replace hT := hT.next hb
  clear hb
  go_wp2_with fail
  refine (gtakes_is ⟨#[]⟩ 0 _ 0 _ hT H5.out rfl).mono ?_
  rintro e w3 ⟨v, rfl, ho, hb⟩
  obtain ⟨A, c, rfl⟩ := owns_slice ho
  have hn : ∀ {n}, w3.ownsRow w2.heap.size 23 2 (.slice A n c) 0 (mvs []) → n = 0 := fun {n} h => by
    rcases h.2 with ⟨h0, h1⟩ | ⟨g', cap, cur, h0, _⟩
    · injection h0
    · injection h0
  go_wp2
  go_ret
  exact ⟨rfl, hB.trans (hb.mono hB.size)⟩
end Go.Proofs.YtnpenlmlggpemaaGreatDoor
