/- What is left: Moves; what is banned: Banned; of no match: nothing. -/
import Derived.Test.YtbdgbihdhbjljaaGreatDoorMatchC
namespace Go.Proofs.YtbdgbihdhbjljaaGreatDoor
open Go.RowKit Go.Shelf
open M (S)

theorem own_base {w : World} {B B' : Nat} {e : TypeId} {size : Nat} {v : Value} {n : Nat} {xs : List Value} (h : w.ownsRow B e size v n xs) (hB : B' ≤ B) : w.ownsRow B' e size v n xs := by
  refine ⟨h.1, ?_⟩
  rcases h.2 with h0 | ⟨g, cap, cur, hv, hg, r⟩
  · exact .inl h0
  · exact .inr ⟨g, cap, cur, hv, Nat.le_trans hB hg, r⟩
set_option maxHeartbeats 1000000 in
theorem moves1_is {W : World} {mb bx : Nat} {p : Ps} {k r : Int} {n : Nat} {A : Option Addr} {c : Nat} {bs : List (Int × Int)} (h : MAt W mb p k r n A c bs) (h9 : bs.length ≤ 1000000) (hb : Blk W bx 35 #[.pointer (some ⟨mb, 0, none⟩)]) (a b : Int) : Calls Tryz.prog 57 #[.agg #[.int .i64 a, .int .i64 b], .pointer (some ⟨bx, 0, none⟩)] W (Gives W (.bool (inI bs (a, b)))) := by
  unfold Gives
  obtain ⟨W0, hW0⟩ : ∃ W0, W.alloc (.cells #[.int .i64 a, .int .i64 b] 48) = W0 := ⟨_, rfl⟩
  have hB : Below W.heap.size W W0 := by rw [← hW0]; exact below_new _ _
  have bX : Blk W0 W.heap.size 48 #[.int .i64 a, .int .i64 b] := by rw [← hW0]; exact Blk.new _ _ _ rfl
  have x0 : W0.cell? ⟨W.heap.size, 0, none⟩ = some (.int .i64 a) := bX.cell 0
  have x1 : W0.cell? ⟨W.heap.size, 1, none⟩ = some (.int .i64 b) := bX.cell 1
  have b0 : W0.cell? ⟨bx, 0, none⟩ = some (.pointer (some ⟨mb, 0, none⟩)) := (hb.next hB).cell 0
  obtain ⟨_, _, _, _, _, _, _, d7⟩ := m_cells (h.next hB).blk
  have y0 : (W.alloc (.cells #[.int .i64 a, .int .i64 b] 48)).cell? ⟨bx, 0, none⟩ = some (.pointer (some ⟨mb, 0, none⟩)) := by rw [hW0]; exact b0
  have y7 : (W.alloc (.cells #[.int .i64 a, .int .i64 b] 48)).cell? ⟨mb, 7, none⟩ = some (.slice A bs.length c) := by rw [hW0]; exact d7
  have HM' := Lib.hid (fun W' (hb' : Below W0.heap.size W0 W') => mcontains_any A bs.length c bs a b (inI bs (a, b)) W' ((h.rd.next hB).next hb') rfl h9 rfl)
  have HB := Lib.hid hB
  have HW := Lib.hid hW0
  clear hW0 bX hb h hB
  go_enter Tryz.func57, Tryz.ntmps57
  go_wp2_with fail
  (try rw [HW.out])
  go_region_with ((go_at_call 55; refine (HM'.out W0.drew (Below.refl _ _).drew).mono ?_; rintro e w1 ⟨rfl, hb⟩))
  all_goals
    go_wp2
    go_ret
    exact ⟨rfl, HB.out.trans (((Below.refl _ _).drew.trans hb).mono HB.out.size)⟩
theorem enters_moves1 : ∀ args w, (callFunc 57 args).run Tryz.prog w = .ok (.enter 57 args) w := enters_of Tryz.func57 (by kernel_rfl) rfl
set_option maxHeartbeats 1000000 in
theorem mmoves_nil (W : World) : Calls Tryz.prog 24 #[.pointer none] W (Gives W (.slice none 0 0)) := by
  unfold Gives
  go_enter Tryz.func24, Tryz.ntmps24
  go_wp2
  go_ret
  exact ⟨rfl, below_new _ _⟩
set_option maxRecDepth 100000 in
set_option maxHeartbeats 4000000 in
theorem mmoves_end {W : World} {mb : Nat} {p : Ps} {k r : Int} {n : Nat} {A : Option Addr} {c : Nat} {bs : List (Int × Int)} (h : MAt W mb p k r n A c bs) (hk : k ≠ 0) : Calls Tryz.prog 24 #[.pointer (some ⟨mb, 0, none⟩)] W (Gives W (.slice none 0 0)) := by
  unfold Gives
  obtain ⟨W0, hW0⟩ : ∃ W0, W.alloc (.cells #[.pointer (some ⟨mb, 0, none⟩)] 35) = W0 := ⟨_, rfl⟩
  have hB : Below W.heap.size W W0 := by rw [← hW0]; exact below_new _ _
  have HB := Lib.hid hB
  have HW := Lib.hid hW0
  have HE := Lib.hid (mended_is (h.next hB) true (by rw [bne_iff_ne]; exact hk))
  clear hB hW0 h
  go_enter Tryz.func24, Tryz.ntmps24
  go_wp2_with fail
  (try rw [HW.out])
  refine HE.out.mono ?_
  rintro e w1 ⟨rfl, hb⟩
  have HB1 := Lib.hid (HB.out.trans (hb.mono HB.out.size))
  clear hb
  go_wp2_with fail
  go_ret
  exact ⟨rfl, HB1.out⟩
set_option maxRecDepth 100000 in
set_option maxHeartbeats 4000000 in
theorem mmoves_any {W : World} {mb : Nat} {p : Ps} {r : Int} {n : Nat} {A : Option Addr} {c : Nat} {bs : List (Int × Int)} (h : MAt W mb p 0 r n A c bs) (hT : Tab W) (h9 : bs.length ≤ 1000000) : Calls Tryz.prog 24 #[.pointer (some ⟨mb, 0, none⟩)] W fun e w' => ∃ v', e = .returned v' ∧ w'.ownsRow W.heap.size 48 2 v' (leftL p bs).length (mzL (leftL p bs)) ∧ Below W.heap.size W w' := by
  obtain ⟨W2, hW2⟩ : ∃ W2, W.alloc (.cells #[.pointer (some ⟨mb, 0, none⟩)] 35) = W2 := ⟨_, rfl⟩
  have hB2 : Below W.heap.size W W2 := by rw [← hW2]; exact below_new _ _
  have b1 : Blk W2 W.heap.size 35 #[.pointer (some ⟨mb, 0, none⟩)] := by rw [← hW2]; exact Blk.new _ _ _ rfl
  have HM := Lib.hid (h.next hB2)
  have HT := Lib.hid (hT.next hB2)
  have H1 := Lib.hid b1
  have HB2 := Lib.hid hB2
  have HW2 := Lib.hid hW2
  have hw2 : Wish 57 #[.pointer (some ⟨W.heap.size, 0, none⟩)] (fun x => inI bs x) W2.heap.size W2 := fun W' a b hb => moves1_is (HM.out.next hb) h9 (H1.out.next hb) a b
  have HW := Lib.hid hw2
  have HE := Lib.hid (mended_is (h.next hB2) false rfl)
  clear h hT hB2 b1 hW2 hw2
  go_enter Tryz.func24, Tryz.ntmps24
  go_wp2_with fail
  (try rw [HW2.out])
  refine HE.out.mono ?_
  rintro e w3 ⟨rfl, hb3⟩
  have HB3 := Lib.hid (HB2.out.trans (hb3.mono HB2.out.size))
  have HM3 := Lib.hid (HM.out.next hb3)
  have HT3 := Lib.hid (HT.out.next hb3)
  have HB23 := Lib.hid hb3
  have c1 : w3.cell? ⟨W.heap.size, 0, none⟩ = some (.pointer (some ⟨mb, 0, none⟩)) := (H1.out.next hb3).cell 0
  clear hb3
  have hll : (allI p).length = (legalV p.s p.y p.z p.u).length := by unfold allI; rw [List.length_map]
  have hl9 : (legalV p.s p.y p.z p.u).length ≤ 1000000 := Nat.le_trans (legalV_len _ _ _ _) (by decide)
  have HLL := Lib.hid hll
  have HL9 := Lib.hid hl9
  have HM3d := Lib.hid (mall_is HM3.out HT3.out (legalV p.s p.y p.z p.u) (legalV p.s p.y p.z p.u).length rfl rfl)
  have HSZ : Hid (W2.heap.size ≤ w3.heap.size) := HB23.out.size
  clear hll hl9
  go_wp2_with fail
  refine HM3d.out.mono ?_
  rintro e w4 ⟨v4, rfl, ho4, hb4⟩
  have B4 : Hid (Below W2.heap.size W2 w4) := HB23.out.trans (hb4.mono HB23.out.size)
  have HO4 := Lib.hid (own_down ho4 HSZ.out)
  have c1' : w4.cell? ⟨W.heap.size, 0, none⟩ = some (.pointer (some ⟨mb, 0, none⟩)) := (H1.out.next B4.out).cell 0
  clear ho4 hb4
  go_wp2_with fail
  refine (mdelete_own 57 _ enters_moves1 v4 (legalV p.s p.y p.z p.u).length (allI p) (fun x => inI bs x) W2.heap.size w4 (HW.out.later B4.out) HO4.out HLL.out HL9.out B4.out.size).mono ?_
  rintro e w5 ⟨v5, rfl, ho5, hb5⟩
  have HO5 := Lib.hid (own_base ho5 HB2.out.size)
  have HB5 : Hid (Below W.heap.size W w5) := HB2.out.trans ((B4.out.trans hb5).mono HB2.out.size)
  clear ho5 hb5
  go_wp2_with fail
  go_ret
  exact ⟨_, rfl, HO5.out, HB5.out⟩
end Go.Proofs.YtbdgbihdhbjljaaGreatDoor
