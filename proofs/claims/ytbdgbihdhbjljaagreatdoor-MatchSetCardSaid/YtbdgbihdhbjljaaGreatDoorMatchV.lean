/- What the document says of matches, told by the code: a new one; live19. -/
import Derived.Test.YtbdgbihdhbjljaaGreatDoorMatchG
import Derived.Test.YtbdgbihdhbjljaaGreatDoorMatchW
namespace Go.Proofs.YtbdgbihdhbjljaaGreatDoor
open Go.RowKit Go.Shelf
open M (S)

set_option maxRecDepth 100000 in
set_option maxHeartbeats 4000000 in
theorem mnew_is (w : World) (hT : Tab w) : Calls Tryz.prog 17 #[] w fun e w' => ∃ mb, e = .returned (.pointer (some ⟨mb, 0, none⟩)) ∧ w.heap.size ≤ mb ∧ MAt w' mb froP0 0 0 0 none 0 [] ∧ Below w.heap.size w w' := by
  obtain ⟨W1, hW1⟩ : ∃ W1, w.alloc (.cells #[.string ⟨#[]⟩, .int .i64 0, .int .i64 0, .int .i64 0, .int .i64 0, .int .i64 0, .int .i64 0, .slice none 0 0] 69) = W1 := ⟨_, rfl⟩
  have hB : Below w.heap.size w W1 := by rw [← hW1]; exact below_new _ _
  have bM : Blk W1 w.heap.size 69 #[.string ⟨#[]⟩, .int .i64 0, .int .i64 0, .int .i64 0, .int .i64 0, .int .i64 0, .int .i64 0, .slice none 0 0] := by rw [← hW1]; exact Blk.new _ _ _ rfl
  have hc : Calls Tryz.prog 20 #[.pointer (some ⟨w.heap.size, 0, none⟩), .agg #[.string startS, .int .i64 0, .int .i64 0, .int .i64 1], .slice none 0 0] W1 fun e w' => e = .returned (.int .i64 0) ∧ MAt w' w.heap.size froP0 0 0 0 none 0 [] ∧ Far (· = w.heap.size) W1 w' ∧ (∀ B, B ≤ W1.heap.size → B ≤ w.heap.size → Below B W1 w') := mset_good w.heap.size _ _ _ _ _ _ _ _ froP0 none [] 0 0 W1 bM (hT.next hB) (rd_nil _ _) rfl (Nat.le_refl _) 0 0 froP0 new_game.1 new_game.2.1 (by rw [new_game.2.2]; rfl)
  have HC := Lib.hid hc
  have HW := Lib.hid hW1
  have HB := Lib.hid hB
  clear hc hW1 hB bM
  go_enter Tryz.func17, Tryz.ntmps17
  go_wp2_with fail
  (try rw [HW.out])
  refine HC.out.mono ?_
  rintro e w2 ⟨rfl, hm, hf, hb⟩
  have HM := Lib.hid hm
  have HB2 := Lib.hid (HB.out.trans (hb _ HB.out.size (Nat.le_refl _)))
  clear hm hf hb
  go_wp2_with fail
  go_ret
  exact ⟨_, rfl, Nat.le_refl _, HM.out, HB2.out⟩
def ban9 : List (Int × Int) := banL froP0 [(0, 9)]
theorem ban9_len : ban9.length ≤ 1000000 := Nat.le_trans (List.length_filter_le _ _) (Nat.le_trans (allI_len _) (by decide))
/-- What the moves of the start are, with none banned, with one. -/
theorem mv_start {W : World} {mb : Nat} {n : Nat} {A : Option Addr} {c : Nat} {bs : List (Int × Int)} (k : Nat) (h : MAt W mb froP0 0 0 n A c bs) (hT : Tab W) (h9 : bs.length ≤ 1000000) (hk : (leftL froP0 bs).length = k) : Calls Tryz.prog 24 #[.pointer (some ⟨mb, 0, none⟩)] W fun e w' => ∃ A' c', e = .returned (.slice A' k c') ∧ Below W.heap.size W w' := by
  refine (mmoves_any h hT h9).mono ?_
  rintro e w' ⟨v', rfl, ho, hb⟩
  rw [hk] at ho
  obtain ⟨A', c', rfl, _, _⟩ := own_any ho
  exact ⟨A', c', rfl, hb⟩
theorem ban_start {W : World} {mb : Nat} (h : MAt W mb froP0 0 0 0 none 0 []) (hT : Tab W) (C : Option Addr) (hr : Rd W C (mzL [(0, 9)])) : Calls Tryz.prog 22 #[.pointer (some ⟨mb, 0, none⟩), .slice C 1 1] W fun e w' => e = .returned (.int .i64 0) ∧ ∃ A' c', MAt w' mb froP0 0 0 0 A' c' ban9 ∧ Far (· = mb) W w' := by
  refine (mban_any h hT C [(0, 9)] 1 1 hr rfl (by decide) false start_ban).mono ?_
  rintro e w' ⟨rfl, hh⟩
  rcases hh with ⟨h0, _⟩ | ⟨_, A', c', h1, h2⟩
  · cases h0
  · exact ⟨rfl, A', c', h1, h2⟩
theorem ban_not {W : World} {mb n c : Nat} {A : Option Addr} {bs : List (Int × Int)} (h : MAt W mb froP0 0 0 n A c bs) (hT : Tab W) (C : Option Addr) (hr : Rd W C (mzL [(0, 1)])) : Calls Tryz.prog 22 #[.pointer (some ⟨mb, 0, none⟩), .slice C 1 1] W (Gives W (.int .i64 7)) := by
  refine (mban_any h hT C [(0, 1)] 1 1 hr rfl (by decide) true start_not).mono ?_
  rintro e w' ⟨rfl, hh⟩
  rcases hh with ⟨_, hb⟩ | ⟨h0, _⟩
  · exact ⟨rfl, hb⟩
  · cases h0
theorem set_hor {W : World} {mb n c : Nat} {A : Option Addr} {bs : List (Int × Int)} (h : MAt W mb froP0 0 0 n A c bs) (hT : Tab W) (C : Option Addr) (hr : Rd W C (mzL [(19, 82)])) : Calls Tryz.prog 20 #[.pointer (some ⟨mb, 0, none⟩), .agg #[.string startS, .int .i64 0, .int .i64 0, .int .i64 1], .slice C 1 1] W fun e w' => e = .returned (.int .i64 0) ∧ MAt w' mb horP 0 0 1 none 0 [] ∧ Far (· = mb) W w' :=
  (mset_good mb _ _ _ _ _ _ _ _ froP0 C [(19, 82)] 1 1 W h.blk hT hr rfl (by decide) 0 0 horP hor_game.1 hor_game.2.1 (by rw [hor_game.2.2]; rfl)).mono fun e w' ⟨h1, h2, h3, _⟩ => ⟨h1, h2, h3⟩
theorem set_none (mb : Nat) (W : World) (hT : Tab W) : Calls Tryz.prog 20 #[.pointer (some ⟨mb, 0, none⟩), .agg #[.string ⟨#[]⟩, .int .i64 0, .int .i64 0, .int .i64 0], .slice none 0 0] W (Gives W (.int .i64 1)) := mset_bad mb ⟨⟨#[]⟩, 0, 0, 0⟩ none [] 0 0 W hT (rd_nil _ _) rfl (Nat.le_refl _) 1 none_game (by decide)
theorem now_hor {W : World} {mb n c : Nat} {A : Option Addr} {bs : List (Int × Int)} (h : MAt W mb horP 0 0 n A c bs) : Calls Tryz.prog 29 #[.pointer (some ⟨mb, 0, none⟩)] W (Gives W (.agg #[.string horS, .int .i64 1, .int .i64 0, .int .i64 1])) := mnow_is h
theorem field_hor (q : ByteArray) (y z u : Int) (W : World) : (Instr.field 23 (.agg #[.string q, .int .i64 y, .int .i64 z, .int .i64 u]) 1).run Tryz.prog W = .ok (.int .i64 y) W := by kernel_rfl
theorem row_new (W : World) (x y : Int) : Rd (W.alloc (.cells #[.int .i64 x, .int .i64 y] 48)) (some ⟨W.heap.size, 0, none⟩) (mzL [(x, y)]) := rd_blk (Blk.new W 48 #[.int .i64 x, .int .i64 y] rfl)
set_option maxRecDepth 100000 in
set_option maxHeartbeats 8000000 in
theorem live19_any (w : World) (hT : Tab w) : Calls Tryz.prog 16 #[] w (Gives w (.bool true)) := by
  unfold Gives
  have HT := Lib.hid hT
  go_enter Tryz.func16, Tryz.ntmps16
  go_wp2_with fail
  refine (mnew_is w HT.out).mono ?_
  rintro e w1 ⟨mb, rfl, hmb, hm1, hb1⟩
  have HMB := Lib.hid hmb
  obtain ⟨W2, hW2⟩ : ∃ W2, w1.alloc (.cells #[.string startS, .int .i64 0, .int .i64 0, .int .i64 1] 23) = W2 := ⟨_, rfl⟩
  have hb2 : Below w1.heap.size w1 W2 := by rw [← hW2]; exact below_new _ _
  have bP : Blk W2 w1.heap.size 23 #[.string startS, .int .i64 0, .int .i64 0, .int .i64 1] := by rw [← hW2]; exact Blk.new _ _ _ rfl
  have HM2 := Lib.hid (hm1.next hb2)
  have HB2 := Lib.hid (hb1.trans (hb2.mono hb1.size))
  have HP2 := Lib.hid bP
  have HW2 := Lib.hid hW2
  have HNE : Hid (w1.heap.size ≠ mb) := by
    have h := hm1.blk.lt
    show _ ≠ _
    omega
  obtain ⟨gp, hgp⟩ : ∃ gp, w1.heap.size = gp := ⟨_, rfl⟩
  rw [hgp] at HP2 HNE
  have HGP := Lib.hid hgp
  clear hmb hm1 hb1 hW2 hb2 bP hgp
  go_wp2_with fail
  (try rw [show (⟨#[82, 78, 66, 65, 75, 65, 66, 78, 82, 46, 46, 46, 46, 46, 46, 46, 46, 46, 46, 67, 46, 46, 46, 46, 46, 67, 46, 80, 46, 80, 46, 80, 46, 80, 46, 80, 46, 46, 46, 46, 46, 46, 46, 46, 46, 46, 46, 46, 46, 46, 46, 46, 46, 46, 112, 46, 112, 46, 112, 46, 112, 46, 112, 46, 99, 46, 46, 46, 46, 46, 99, 46, 46, 46, 46, 46, 46, 46, 46, 46, 46, 114, 110, 98, 97, 107, 97, 98, 110, 114]⟩ : ByteArray) = startS from rfl])
  (try rw [HW2.out])
  (try rw [HGP.out])
  refine (mv_start 44 HM2.out (HT.out.next HB2.out) (by decide) start_left).mono ?_
  rintro e w3 ⟨A3, c3, rfl, hb3⟩
  have HM3 := Lib.hid (HM2.out.next hb3)
  have HB3 := Lib.hid (HB2.out.trans (hb3.mono HB2.out.size))
  have HP3 := Lib.hid (HP2.out.next hb3)
  clear hb3
  go_wp2_with fail
  have hal := below_new w3 (.cells #[.int .i64 0, .int .i64 9] 48)
  refine (ban_start (HM3.out.next hal) (HT.out.next (HB3.out.trans (hal.mono HB3.out.size))) _ (row_new w3 0 9)).mono ?_
  rintro e w4 ⟨rfl, A4, c4, hm4, hf4⟩
  have HB4 := Lib.hid (far_tab (HB3.out.trans (hal.mono HB3.out.size)) HMB.out hf4)
  have HP4 := Lib.hid (hf4.blk (HP3.out.next hal) HNE.out)
  have HM4 := Lib.hid hm4
  clear hal hm4 hf4
  go_wp2_with fail
  refine (mv_start 43 HM4.out (HT.out.next HB4.out) ban9_len start_left43).mono ?_
  rintro e w5 ⟨A5, c5, rfl, hb5⟩
  have HM5 := Lib.hid (HM4.out.next hb5)
  have HB5 := Lib.hid (HB4.out.trans (hb5.mono HB4.out.size))
  have HP5 := Lib.hid (HP4.out.next hb5)
  clear hb5
  go_wp2_with fail
  have hal := below_new w5 (.cells #[.int .i64 0, .int .i64 1] 48)
  refine (ban_not (HM5.out.next hal) (HT.out.next (HB5.out.trans (hal.mono HB5.out.size))) _ (row_new w5 0 1)).mono ?_
  rintro e w6 ⟨rfl, hb6⟩
  have hb6' := hal.trans (hb6.mono hal.size)
  have HM6 := Lib.hid (HM5.out.next hb6')
  have HB6 := Lib.hid (HB5.out.trans (hb6'.mono HB5.out.size))
  have HP6 := Lib.hid (HP5.out.next hb6')
  clear hal hb6 hb6'
  go_wp2_with fail
  refine (mv_start 43 HM6.out (HT.out.next HB6.out) ban9_len start_left43).mono ?_
  rintro e w7 ⟨A7, c7, rfl, hb7⟩
  have HM7 := Lib.hid (HM6.out.next hb7)
  have HB7 := Lib.hid (HB6.out.trans (hb7.mono HB6.out.size))
  have HP7 := Lib.hid (HP6.out.next hb7)
  clear hb7
  obtain ⟨p0, p1, p2, p3⟩ := four_cells HP7.out
  go_wp2_with fail
  have hal := below_new w7 (.cells #[.int .i64 19, .int .i64 82] 48)
  refine (set_hor (HM7.out.next hal) (HT.out.next (HB7.out.trans (hal.mono HB7.out.size))) _ (row_new w7 19 82)).mono ?_
  rintro e w8 ⟨rfl, hm8, hf8⟩
  have HB8 := Lib.hid (far_tab (HB7.out.trans (hal.mono HB7.out.size)) HMB.out hf8)
  have HM8 := Lib.hid hm8
  clear hal hm8 hf8 p0 p1 p2 p3
  go_wp2_with fail
  refine (set_none mb w8 (HT.out.next HB8.out)).mono ?_
  rintro e w9 ⟨rfl, hb9⟩
  have HB9 := Lib.hid (HB8.out.trans (hb9.mono HB8.out.size))
  have HM9 := Lib.hid (HM8.out.next hb9)
  clear hb9
  go_wp2_with fail
  refine (mplies_is HM9.out).mono ?_
  rintro e w10 ⟨rfl, hb10⟩
  have HB10 := Lib.hid (HB9.out.trans (hb10.mono HB9.out.size))
  have HM10 := Lib.hid (HM9.out.next hb10)
  clear hb10
  go_wp2_with fail
  have hfield := field_hor horS 1 0 1
  refine (now_hor HM10.out).mono ?_
  rintro e w11 ⟨rfl, hb11⟩
  have HB11 := Lib.hid (HB10.out.trans (hb11.mono HB10.out.size))
  have HM11 := Lib.hid (HM10.out.next hb11)
  clear hb11
  go_wp2_with fail
  refine (mbanned_any HM11.out (by decide)).mono ?_
  rintro e w12 ⟨v12, rfl, ho12, hb12⟩
  obtain ⟨A12, c12, rfl, _, _⟩ := own_any ho12
  have HB12 := Lib.hid (HB11.out.trans (hb12.mono HB11.out.size))
  have HM12 := Lib.hid (HM11.out.next hb12)
  clear hb12 ho12
  go_wp2_with fail
  refine (mverdict_is HM12.out).mono ?_
  rintro e w13 ⟨rfl, hb13⟩
  have HB13 := Lib.hid (HB12.out.trans (hb13.mono HB12.out.size))
  clear hb13
  go_wp2_with fail
  go_ret
  exact ⟨rfl, HB13.out⟩
end Go.Proofs.YtbdgbihdhbjljaaGreatDoor
