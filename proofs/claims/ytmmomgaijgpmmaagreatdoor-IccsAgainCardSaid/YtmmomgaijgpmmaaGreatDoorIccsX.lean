/- The document's own examples of layer 12 hold. -/
import Derived.Test.YtmmomgaijgpmmaaGreatDoorIccsW
import Derived.Test.YtmmomgaijgpmmaaGreatDoorIccsP
namespace Go.Proofs.YtmmomgaijgpmmaaGreatDoor.I
open Go.RowKit Go.Shelf Go.Proofs.YtmmomgaijgpmmaaGreatDoor.F
open M (S)
attribute [local go_sem] Oper.semAt_some
def startI : ByteArray := ⟨#[82, 78, 66, 65, 75, 65, 66, 78, 82, 46, 46, 46, 46, 46, 46, 46, 46, 46, 46, 67, 46, 46, 46, 46, 46, 67, 46, 80, 46, 80, 46, 80, 46, 80, 46, 80, 46, 46, 46, 46, 46, 46, 46, 46, 46, 46, 46, 46, 46, 46, 46, 46, 46, 46, 112, 46, 112, 46, 112, 46, 112, 46, 112, 46, 99, 46, 46, 46, 46, 46, 99, 46, 46, 46, 46, 46, 46, 46, 46, 46, 46, 114, 110, 98, 97, 107, 97, 98, 110, 114]⟩
abbrev sI : Pz := ⟨startI, 0, 0, 1⟩
abbrev sI1 : Pz := behindP sI (19, 82)
abbrev sI2 : Pz := behindP sI1 (81, 82)
theorem li_well : wellN startI 0 0 1 = 0 := by decide +kernel
theorem li_may1 : mayP sI (19, 82) = true := by decide +kernel
theorem li_may2 : mayP sI1 (81, 82) = true := by decide +kernel
theorem li_may3 : mayP sI1 (19, 82) = false := by decide +kernel
theorem li_words1 : wordsT ⟨#[98, 50, 98, 57, 32, 97, 57, 98, 57]⟩ = [[98, 50, 98, 57], [97, 57, 98, 57]] := by decide +kernel
theorem li_words2 : wordsT ⟨#[98, 50, 98, 57, 32, 98, 50, 98, 57]⟩ = [[98, 50, 98, 57], [98, 50, 98, 57]] := by decide +kernel
theorem li_r1 : readT (bs [98, 50, 98, 57]) = some (19, 82) := by decide +kernel
theorem li_r2 : readT (bs [97, 57, 98, 57]) = some (81, 82) := by decide +kernel
theorem li_line1 : lineT sI ⟨#[98, 50, 98, 57, 32, 97, 57, 98, 57]⟩ = .got [(19, 82), (81, 82)] sI2 := by
  unfold lineT
  rw [if_pos li_well, li_words1, line_on li_r1 (by decide) li_may1, line_on li_r2 (by decide) li_may2, lineF]
  rfl
theorem li_line2 : lineT sI ⟨#[98, 50, 98, 57, 32, 98, 50, 98, 57]⟩ = .no 7 := by
  unfold lineT
  rw [if_pos li_well, li_words2, line_on li_r1 (by decide) li_may1, line_move li_r1 (by decide) li_may3]
  rfl
theorem li_full : sI2.u = 2 := by decide +kernel
theorem li_text : textT [(19, 82), (81, 82)] = ⟨#[98, 50, 98, 57, 32, 97, 57, 98, 57]⟩ := by decide +kernel
theorem li_p1 : readT ⟨#[72, 50, 45, 69, 50]⟩ = some (25, 22) := by decide +kernel
theorem li_p2 : readT ⟨#[104, 50, 106, 50]⟩ = none := by decide +kernel
theorem li_print : printT 19 82 = ⟨#[98, 50, 98, 57]⟩ := by decide +kernel
theorem line_got {w : World} {a0 a1 a2 : Addr} (hE : Errs w a0 a1 a2) (hT : Tab w) (s : ByteArray) (y z u : Int) (t : ByteArray) (ht : t.size ≤ 100000) (l : List (Int × Int)) (q : Pz) (h : lineT ⟨s, y, z, u⟩ t = .got l q) :
    Calls Tryz.prog 13 #[.agg #[.string s, .int .i64 y, .int .i64 z, .int .i64 u], .string t] w fun e w' => ∃ A c, e = .returned (.tuple #[.slice A l.length c, .agg #[.string q.s, .int .i64 q.y, .int .i64 q.z, .int .i64 q.u], .int .i64 0]) ∧ (l.length ≤ c ∧ ∀ ad, A = some ad → w.heap.size ≤ ad.block) ∧ Rd w' A (mvl l) ∧ Below w.heap.size w w' := by
  refine (iline_any hE hT ⟨s, y, z, u⟩ t ht).mono ?_
  rintro e w' ⟨hb, hm⟩
  rw [h] at hm
  obtain ⟨v, rfl, hrow⟩ := hm
  obtain ⟨A, c, rfl⟩ := row_slice hrow
  refine ⟨A, c, rfl, ?_, Rd.owns hrow, hb⟩
  rcases hrow.2 with ⟨e, h0⟩ | ⟨g, cap, cur, e, hbs, _, hc, _⟩
  · injection e with e1 e2 e3
    exact ⟨by omega, fun ad h => by rw [e1] at h; cases h⟩
  · injection e with e1 _ e3
    exact ⟨by omega, fun ad h => by rw [e1] at h; cases h; exact hbs⟩
theorem line_no {w : World} {a0 a1 a2 : Addr} (hE : Errs w a0 a1 a2) (hT : Tab w) (s : ByteArray) (y z u : Int) (t : ByteArray) (ht : t.size ≤ 100000) (k : Int) (h : lineT ⟨s, y, z, u⟩ t = .no k) :
    Calls Tryz.prog 13 #[.agg #[.string s, .int .i64 y, .int .i64 z, .int .i64 u], .string t] w (Gives w (.tuple #[.slice none 0 0, .agg #[.string ⟨#[]⟩, .int .i64 0, .int .i64 0, .int .i64 0], .int .i64 k])) := by
  refine (iline_any hE hT ⟨s, y, z, u⟩ t ht).mono ?_
  rintro e w' ⟨hb, hm⟩
  rw [h] at hm
  exact ⟨hm, hb⟩
set_option maxRecDepth 100000 in
set_option maxHeartbeats 8000000 in
theorem live12_any {w : World} {a0 a1 a2 : Addr} (hE : Errs w a0 a1 a2) (hT : Tab w) : Calls Tryz.prog 8 #[] w (Gives w (.bool true)) := by
  unfold Gives
  have h1 := li_line1
  have h2 := li_line2
  have h3 := li_full
  unfold sI at h1 h2
  obtain ⟨q, hq⟩ : ∃ q, sI2 = q := ⟨_, rfl⟩
  rw [hq] at h1 h3
  have hp1 : parseM ⟨#[72, 50, 45, 69, 50]⟩ = .tuple #[.agg #[.int .i64 25, .int .i64 22], .int .i64 0] := by unfold parseM; rw [li_p1]
  have hp2 : parseM ⟨#[104, 50, 106, 50]⟩ = .tuple #[.agg #[.int .i64 0, .int .i64 0], .int .i64 6] := by unfold parseM; rw [li_p2]
  have HP1 := Lib.hid hp1
  have HP2 := Lib.hid hp2
  have HPR := Lib.hid li_print
  have HTX := Lib.hid li_text
  clear hp1 hp2 hq
  go_enter Tryz.func8, Tryz.ntmps8
  go_wp2_with fail
  have hlit : (⟨#[82, 78, 66, 65, 75, 65, 66, 78, 82, 46, 46, 46, 46, 46, 46, 46, 46, 46, 46, 67, 46, 46, 46, 46, 46, 67, 46, 80, 46, 80, 46, 80, 46, 80, 46, 80, 46, 46, 46, 46, 46, 46, 46, 46, 46, 46, 46, 46, 46, 46, 46, 46, 46, 46, 112, 46, 112, 46, 112, 46, 112, 46, 112, 46, 99, 46, 46, 46, 46, 46, 99, 46, 46, 46, 46, 46, 46, 46, 46, 46, 46, 114, 110, 98, 97, 107, 97, 98, 110, 114]⟩ : ByteArray) = startI := rfl
  simp only [hlit]
  clear hlit
  generalize startI = st at h1 h2 ⊢
  have H1 := Lib.hid h1
  have H2 := Lib.hid h2
  have H3 := Lib.hid h3
  clear h1 h2 h3
  obtain ⟨W0, hW0⟩ : ∃ x, w.alloc (.cells #[.string st, .int .i64 0, .int .i64 0, .int .i64 1] 32) = x := ⟨_, rfl⟩
  have hB0 : Below w.heap.size w W0 := by rw [← hW0]; exact (by repeat (first | exact Below.refl _ _ | (refine Below.setCell ?_ (by first | omega | (simp; done) | (simp; omega) | (simp at *; omega)) _) | (refine Below.alloc ?_ (by first | omega | (simp; done) | (simp; omega) | (simp at *; omega)) _) | refine Below.drew ?_ | (refine below_drewN ?_ _) | (refine Below.trans ?_ (Below.mono (by assumption) (by first | omega | (simp; done) | (simp; omega) | (simp at *; omega))))))
  have bP0 : Blk W0 w.heap.size 32 #[.string st, .int .i64 0, .int .i64 0, .int .i64 1] := by rw [← hW0]; exact Blk.new _ _ _ rfl
  rw [hW0]
  clear hW0
  have hP1 := iparse_any (hE.next hB0) ⟨#[72, 50, 45, 69, 50]⟩
  rw [HP1.out] at hP1
  refine hP1.mono ?_
  rintro e w1 ⟨rfl, hb⟩
  clear hP1
  obtain ⟨V1, hV1⟩ : ∃ x, w1.alloc (.cells #[.int .i64 25, .int .i64 22] 23) = x := ⟨_, rfl⟩
  have hB1 : Below w.heap.size w V1 := by rw [← hV1]; exact (hB0.trans (hb.mono hB0.size)).alloc (hB0.trans (hb.mono hB0.size)).size _
  have bP1 : Blk V1 w.heap.size 32 #[.string st, .int .i64 0, .int .i64 0, .int .i64 1] := by rw [← hV1]; exact (bP0.next hb).alloc _
  have bM1 : Blk V1 w1.heap.size 23 #[.int .i64 25, .int .i64 22] := by rw [← hV1]; exact Blk.new _ _ _ rfl
  clear hb bP0 hB0
  go_wp2_with fail
  clear hV1
  generalize w1.heap.size = gm at bM1 ⊢
  have hP2 := iparse_any (hE.next hB1) ⟨#[104, 50, 106, 50]⟩
  rw [HP2.out] at hP2
  refine hP2.mono ?_
  rintro e w2 ⟨rfl, hb⟩
  clear hP2
  obtain ⟨V2, hV2⟩ : ∃ x, w2.alloc (.cells #[.int .i64 0, .int .i64 0] 23) = x := ⟨_, rfl⟩
  have hB2 : Below w.heap.size w V2 := by rw [← hV2]; exact (hB1.trans (hb.mono hB1.size)).alloc (hB1.trans (hb.mono hB1.size)).size _
  have bP2 : Blk V2 w.heap.size 32 #[.string st, .int .i64 0, .int .i64 0, .int .i64 1] := by rw [← hV2]; exact (bP1.next hb).alloc _
  have bM2 : Blk V2 gm 23 #[.int .i64 25, .int .i64 22] := by rw [← hV2]; exact (bM1.next hb).alloc _
  clear hb bP1 bM1 hB1
  have bP2r := bP2
  rw [← hV2] at bP2r
  obtain ⟨p0, p1, p2, p3⟩ := cell4 bP2r
  have HV2 := Lib.hid hV2
  clear hV2 bP2r
  go_wp2_with fail
  rw [HV2.out]
  clear HV2 p0 p1 p2 p3
  refine (line_got (hE.next hB2) (hT.next hB2) st 0 0 1 _ (by decide) _ q H1.out).mono ?_
  rintro e w3 ⟨A, c, rfl, ⟨hc, _⟩, hr, hb⟩
  obtain ⟨V3, hV3⟩ : ∃ x, w3.alloc (.cells #[.string q.s, .int .i64 q.y, .int .i64 q.z, .int .i64 q.u] 32) = x := ⟨_, rfl⟩
  have hB3 : Below w.heap.size w V3 := by rw [← hV3]; exact (hB2.trans (hb.mono hB2.size)).alloc (hB2.trans (hb.mono hB2.size)).size _
  have bP3 : Blk V3 w.heap.size 32 #[.string st, .int .i64 0, .int .i64 0, .int .i64 1] := by rw [← hV3]; exact (bP2.next hb).alloc _
  have bM3 : Blk V3 gm 23 #[.int .i64 25, .int .i64 22] := by rw [← hV3]; exact (bM2.next hb).alloc _
  have bQ3 : Blk V3 w3.heap.size 32 #[.string q.s, .int .i64 q.y, .int .i64 q.z, .int .i64 q.u] := by rw [← hV3]; exact Blk.new _ _ _ rfl
  have hr3 : Rd V3 A (mvl [(19, 82), (81, 82)]) := by rw [← hV3]; exact hr.next ((Below.refl _ _).alloc (Nat.le_refl _) _)
  clear hb bP2 bM2 hB2 hr
  obtain ⟨p0, p1, p2, p3⟩ := cell4 bP3
  go_wp2_with fail
  clear hV3 p0 p1 p2 p3
  generalize w3.heap.size = gq at bQ3 ⊢
  refine (line_no (hE.next hB3) (hT.next hB3) st 0 0 1 _ (by decide) 7 H2.out).mono ?_
  rintro e w4 ⟨rfl, hb⟩
  obtain ⟨V4, hV4⟩ : ∃ x, w4.alloc (.cells #[.string ⟨#[]⟩, .int .i64 0, .int .i64 0, .int .i64 0] 32) = x := ⟨_, rfl⟩
  have hB4 : Below w.heap.size w V4 := by rw [← hV4]; exact (hB3.trans (hb.mono hB3.size)).alloc (hB3.trans (hb.mono hB3.size)).size _
  have bM4 : Blk V4 gm 23 #[.int .i64 25, .int .i64 22] := by rw [← hV4]; exact (bM3.next hb).alloc _
  have bQ4 : Blk V4 gq 32 #[.string q.s, .int .i64 q.y, .int .i64 q.z, .int .i64 q.u] := by rw [← hV4]; exact (bQ3.next hb).alloc _
  have hr4 : Rd V4 A (mvl [(19, 82), (81, 82)]) := by rw [← hV4]; exact (hr3.next hb).next ((Below.refl _ _).alloc (Nat.le_refl _) _)
  clear hb bP3 bM3 bQ3 hB3 hr3
  have HV4 := Lib.hid hV4
  clear hV4
  go_wp2_with fail
  rw [HV4.out]
  clear HV4
  refine (print_is 19 82 _ _ HPR.out).mono ?_
  rintro e w5 ⟨rfl, hb⟩
  have hB5 := hB4.trans (hb.mono hB4.size)
  have bM5 := bM4.next hb
  have bQ5 := bQ4.next hb
  have hr5 := hr4.next hb
  clear hb hB4 bM4 bQ4 hr4
  have m0 : w5.cell? ⟨gm, 0, none⟩ = some (.int .i64 25) := bM5.cell 0
  have m1 : w5.cell? ⟨gm, 1, none⟩ = some (.int .i64 22) := bM5.cell 1
  have q3 : w5.cell? ⟨gq, 3, none⟩ = some (.int .i64 2) := by
    have := bQ5.cell 3
    simp only [List.getElem?_toArray, List.getElem?_cons_zero, List.getElem?_cons_succ, H3.out] at this
    exact this
  clear bM5 bQ5
  go_wp2_with fail
  clear m0 m1 q3
  refine (itext_any [(19, 82), (81, 82)] 2 A c _ hr5 rfl (by decide) (by decide)).mono ?_
  rintro e w6 ⟨rfl, hb⟩
  rw [HTX.out]
  go_wp2
  go_ret
  exact ⟨rfl, hB5.trans (hb.mono hB5.size)⟩
end Go.Proofs.YtmmomgaijgpmmaaGreatDoor.I
