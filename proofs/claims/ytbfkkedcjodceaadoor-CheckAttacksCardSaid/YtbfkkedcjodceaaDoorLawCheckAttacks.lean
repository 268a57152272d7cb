/- Who attacks any square of any board; where generals stand, whether they face one another, whether they are attacked: the call answers true. -/
import Derived.Test.YtbfkkedcjodceaaDoorLive7
import Derived.Test.YtbfkkedcjodceaaDoorCheckG
namespace Go.Proofs.YtbfkkedcjodceaaDoor.cattacks
open Go.RowKit Go.Shelf
open M (S)

set_option maxRecDepth 100000 in
set_option maxHeartbeats 4000000 in
theorem large (s : ByteArray) (n side : Int) (w : World) (hT : Tab w) (hs : 200 < s.size) : Calls Tryd.prog 9 #[.string s, .int .i64 n, .int .i64 side] w (Gives w (.bool true)) := by
  unfold Gives
  have hd : decide (200 < (s.size : Int)) = true := by simp; omega
  clear hs
  go_enter Tryd.func9, Tryd.ntmps9
  go_wp2_with fail
  refine (live7_any _ hT).mono ?_
  rintro e w1 ⟨rfl, hb⟩
  go_wp2
  go_ret
  exact ⟨rfl, hb⟩
set_option maxRecDepth 100000 in
set_option maxHeartbeats 4000000 in
theorem small (s : ByteArray) (n side : Int) (w : World) (hT : Tab w) (hs : s.size ≤ 200) : Calls Tryd.prog 9 #[.string s, .int .i64 n, .int .i64 side] w (Gives w (.bool true)) := by
  unfold Gives
  have hd : decide (200 < (s.size : Int)) = false := by simp; omega
  clear hs
  obtain ⟨L, hL⟩ : ∃ L, attL s n side = L := ⟨_, rfl⟩
  obtain ⟨m, hm⟩ : ∃ m, L.length = m := ⟨_, rfl⟩
  obtain ⟨g, hg⟩ : ∃ g, generalN s side = g := ⟨_, rfl⟩
  obtain ⟨f, hf⟩ : ∃ f, facingB s = f := ⟨_, rfl⟩
  obtain ⟨i, hi⟩ : ∃ i, inB s side = i := ⟨_, rfl⟩
  have hm1 : m ≤ 1000000 := by
    have := att_len s n side
    rw [hL, hm] at this
    omega
  have HL := Lib.hid hL
  have HM := Lib.hid hm
  have HG := Lib.hid hg
  have HF := Lib.hid hf
  have HI := Lib.hid hi
  clear hL hm hg hf hi
  go_enter Tryd.func9, Tryd.ntmps9
  go_wp2_with fail
  refine (att_as s n side L _ hT HL.out).mono ?_
  rintro e w1 ⟨v, rfl, ho, hb⟩
  obtain ⟨A1, k1, rfl⟩ := own_slice ho
  have rd := Rd.own ho
  have hB := hb
  replace hT := hT.next hb
  clear hb ho
  rw [HM.out]
  go_wp2_with fail
  refine (rat_is s n side L m _ HL.out HM.out).mono ?_
  rintro e w2 ⟨A2, k2, rfl, re, hb⟩
  replace rd := rd.next hb
  replace hT := hT.next hb
  replace hB := hB.trans (hb.mono hB.size)
  clear hb
  go_wp2_with fail
  refine (ints_true _ _ L m _ _ _ rd re HM.out hm1).mono ?_
  rintro e w3 ⟨rfl, hb⟩
  replace hT := hT.next hb
  replace hB := hB.trans (hb.mono hB.size)
  clear hb
  clear rd re
  go_wp2_with fail
  refine (general_is s side g _ HG.out).mono ?_
  rintro e w4 ⟨rfl, rfl⟩
  go_wp2_with fail
  refine (rgen_is s side g _ HG.out).mono ?_
  rintro e w5 ⟨rfl, hb⟩
  replace hT := hT.next hb
  replace hB := hB.trans (hb.mono hB.size)
  clear hb
  go_wp2_with fail
  refine (facing_is s f _ HF.out).mono ?_
  rintro e w6 ⟨rfl, rfl⟩
  go_wp2_with fail
  refine (rfacing_is s f _ HF.out).mono ?_
  rintro e w7 ⟨rfl, hb⟩
  replace hT := hT.next hb
  replace hB := hB.trans (hb.mono hB.size)
  clear hb
  go_wp2_with fail
  refine (in_is s side i _ hT HI.out).mono ?_
  rintro e w8 ⟨rfl, hb⟩
  replace hT := hT.next hb
  replace hB := hB.trans (hb.mono hB.size)
  clear hb
  go_wp2_with fail
  refine (rin_is s side i _ HI.out).mono ?_
  rintro e w9 ⟨rfl, hb⟩
  replace hT := hT.next hb
  replace hB := hB.trans (hb.mono hB.size)
  clear hb
  go_wp2_with fail
  refine (live7_any _ hT).mono ?_
  rintro e w10 ⟨rfl, hb⟩
  replace hB := hB.trans (hb.mono hB.size)
  clear hb
  go_wp2
  go_ret
  exact ⟨rfl, hB⟩
theorem walk (s : ByteArray) (n side : Int) (w : World) (hT : Tab w) : Calls Tryd.prog 9 #[.string s, .int .i64 n, .int .i64 side] w (Gives w (.bool true)) := by
  by_cases hs : s.size ≤ 200
  · exact small s n side w hT hs
  · exact large s n side w hT (by omega)
end Go.Proofs.YtbfkkedcjodceaaDoor.cattacks
