/- What is read, and printed, is read as the same, and printed as the same: the call answers true. -/
import Derived.Test.YtpogpjebhnoncabGreatDoorLineN
namespace Go.Proofs.YtpogpjebhnoncabGreatDoor.lagain
open Go.RowKit Go.Shelf Go.Proofs.YtpogpjebhnoncabGreatDoor.Ln
open M (S)

set_option maxHeartbeats 4000000 in
theorem large (s : ByteArray) {w : World} {a0 a1 a2 : Addr} (hE : Env w) (hR : Errs w a0 a1 a2) (hs : 600 < s.size) : Calls Tryz.prog 7 #[.string s] w (Gives w (.bool true)) := by
  unfold Gives
  have hd : decide (600 < (s.size : Int)) = true := by simp; omega
  go_enter Tryz.func7, Tryz.ntmps7
  go_wp2_with fail
  refine (live23_any hE hR).mono ?_
  rintro e w1 ⟨rfl, hb⟩
  go_wp2
  go_ret
  exact ⟨rfl, hb⟩
set_option maxRecDepth 100000 in
set_option maxHeartbeats 8000000 in
theorem bad (s : List UInt8) (k : Int) {w : World} {a0 a1 a2 : Addr} (hE : Env w) (hR : Errs w a0 a1 a2) (hs : s.length ≤ 600) (hp : parseL s = .error k) : Calls Tryz.prog 7 #[.string (bs s)] w (Gives w (.bool true)) := by
  unfold Gives
  have hss : (bs s).size = s.length := bs_size s
  have hd : decide (600 < ((bs s).size : Int)) = false := by rw [hss]; simp; omega
  have hk : (k != 0) = true := by rw [bne_iff_ne]; exact lparse_err hp
  have HP := Lib.hid (parse_not s k hE hR (by omega) hp)
  clear hp
  go_enter Tryz.func7, Tryz.ntmps7
  go_wp2_with fail
  refine HP.out.mono ?_
  rintro e w2 ⟨rfl, hb2⟩
  have hB2 := cmd_step (Below.refl w.heap.size w) hb2 cmdZ 29
  have bA := Blk.new w2 29 cmdZ rfl
  obtain ⟨r0, r1, r2, r3, r4, r5, r6⟩ := c_cells bA
  have HL := Lib.hid (live23_any (hE.next hB2) (hR.next hB2))
  clear hb2 bA
  go_wp2_with fail
  refine HL.out.mono ?_
  rintro e w4 ⟨rfl, hb4⟩
  go_wp2_with fail
  go_ret
  exact ⟨rfl, hB2.trans (hb4.mono hB2.size)⟩
set_option maxRecDepth 100000 in
set_option maxHeartbeats 8000000 in
theorem good (s : List UInt8) (c : Cmd) {w : World} {a0 a1 a2 : Addr} (hE : Env w) (hR : Errs w a0 a1 a2) (hs : s.length ≤ 600) (hp : parseL s = .ok c) : Calls Tryz.prog 7 #[.string (bs s)] w (Gives w (.bool true)) := by
  unfold Gives
  have hss : (bs s).size = s.length := bs_size s
  have hd : decide (600 < ((bs s).size : Int)) = false := by rw [hss]; simp; omega
  obtain ⟨g1, g2, g3⟩ := again6 hp hs
  have hcl : c.l.length ≤ 1024 := res_len (s := s) (c := c) (by rw [hp]; rfl)
  obtain ⟨t, ht⟩ : ∃ t, printC c = t := ⟨_, rfl⟩
  have hte : (bs t).toList.isEmpty = false := by
    rw [ByteArray.toList_eq, bs_data]
    cases hh : t with
    | nil => exact absurd (ht.trans hh) g1
    | cons => rfl
  rw [ht] at g2 g3
  have htt : ((bs t).toList == (bs t).toList) = true := beq_self_eq_true _
  have HP1 := Lib.hid (parse_got s c hE hR (by omega) hp)
  have HP2 := Lib.hid fun (W : World) (h1 : Env W) (h2 : Errs W a0 a1 a2) => parse_got t c h1 h2 (by omega) g2
  have HT := Lib.hid ht
  have HE := Lib.hid hE
  have HR := Lib.hid hR
  clear hp hs g1 g2 g3 ht hE hR hss
  go_enter Tryz.func7, Tryz.ntmps7
  go_wp2_with fail
  refine HP1.out.mono ?_
  rintro e w1 ⟨A1, n1, rfl, hm1, hb1⟩
  obtain ⟨q, hq⟩ : ∃ q, c.l.length = q := ⟨_, rfl⟩
  rw [hq] at hcl HP2 ⊢
  have hB1 := cmd_step (Below.refl w.heap.size w) hb1 #[.int .i64 c.k, .string (bs c.p.cells), .int .i64 c.p.side, .int .i64 c.p.clock, .int .i64 c.p.full, .slice A1 q n1, .int .i64 c.d] 29
  have bA := Blk.new w1 29 #[.int .i64 c.k, .string (bs c.p.cells), .int .i64 c.p.side, .int .i64 c.p.clock, .int .i64 c.p.full, .slice A1 q n1, .int .i64 c.d] rfl
  replace hm1 := hm1.alloc (.cells #[.int .i64 c.k, .string (bs c.p.cells), .int .i64 c.p.side, .int .i64 c.p.clock, .int .i64 c.p.full, .slice A1 q n1, .int .i64 c.d] 29)
  clear hb1
  go_upto_region 4 with (fail)
  generalize w1.alloc (.cells #[.int .i64 c.k, .string (bs c.p.cells), .int .i64 c.p.side, .int .i64 c.p.clock, .int .i64 c.p.full, .slice A1 q n1, .int .i64 c.d] 29) = V1 at hB1 bA hm1 ⊢
  generalize w1.heap.size = gA at bA ⊢
  clear w1
  obtain ⟨r0, r1, r2, r3, r4, r5, r6⟩ := c_cells bA
  have hpr := printL_any c A1 q n1 V1 (HE.out.next hB1) hm1 hq (by omega)
  rw [HT.out] at hpr
  have HPR := Lib.hid hpr
  clear hpr
  go_wp2_with fail
  refine HPR.out.mono ?_
  rintro e w2 ⟨rfl, hb2⟩
  have hB2 := hB1.trans (hb2.mono hB1.size)
  replace bA := bA.next hb2
  replace hm1 := hm1.next hb2
  clear hb2 HPR hB1 r0 r1 r2 r3 r4 r5 r6
  go_wp2_with fail
  refine (HP2.out w2 (HE.out.next hB2) (HR.out.next hB2)).mono ?_
  rintro e w3 ⟨A2, n2, rfl, hm2, hb3⟩
  have hB3 := cmd_step hB2 hb3 #[.int .i64 c.k, .string (bs c.p.cells), .int .i64 c.p.side, .int .i64 c.p.clock, .int .i64 c.p.full, .slice A2 q n2, .int .i64 c.d] 29
  have bB := Blk.new w3 29 #[.int .i64 c.k, .string (bs c.p.cells), .int .i64 c.p.side, .int .i64 c.p.clock, .int .i64 c.p.full, .slice A2 q n2, .int .i64 c.d] rfl
  replace hm2 := hm2.alloc (.cells #[.int .i64 c.k, .string (bs c.p.cells), .int .i64 c.p.side, .int .i64 c.p.clock, .int .i64 c.p.full, .slice A2 q n2, .int .i64 c.d] 29)
  replace hm1 := (hm1.next hb3).alloc (.cells #[.int .i64 c.k, .string (bs c.p.cells), .int .i64 c.p.side, .int .i64 c.p.clock, .int .i64 c.p.full, .slice A2 q n2, .int .i64 c.d] 29)
  replace bA := (bA.next hb3).alloc (.cells #[.int .i64 c.k, .string (bs c.p.cells), .int .i64 c.p.side, .int .i64 c.p.clock, .int .i64 c.p.full, .slice A2 q n2, .int .i64 c.d] 29)
  clear hb3 hB2
  go_upto_region 8 with (fail)
  generalize w3.alloc (.cells #[.int .i64 c.k, .string (bs c.p.cells), .int .i64 c.p.side, .int .i64 c.p.clock, .int .i64 c.p.full, .slice A2 q n2, .int .i64 c.d] 29) = V2 at hB3 bA bB hm1 hm2 ⊢
  generalize w3.heap.size = gB at bB ⊢
  clear w3
  have hT2 : Two w gA gB c.k (bs c.p.cells) c.p.side c.p.clock c.p.full A1 A2 c.l q n1 n2 c.d a0 a1 a2 V2 := ⟨bA, bB, hm1, hm2, HE.out.next hB3, HR.out.next hB3, hB3⟩
  have HT2 := Lib.hid hT2
  clear bA bB hm1 hm2 hT2
  have hq9 : q ≤ 1000000 := by omega
  have PRT : ∀ {W : World}, (W.cell? ⟨gA, 0, none⟩ = some (.int .i64 c.k) ∧ W.cell? ⟨gA, 1, none⟩ = some (.string (bs c.p.cells)) ∧ W.cell? ⟨gA, 2, none⟩ = some (.int .i64 c.p.side) ∧ W.cell? ⟨gA, 3, none⟩ = some (.int .i64 c.p.clock) ∧ W.cell? ⟨gA, 4, none⟩ = some (.int .i64 c.p.full) ∧ W.cell? ⟨gA, 5, none⟩ = some (.slice A1 q n1) ∧ W.cell? ⟨gA, 6, none⟩ = some (.int .i64 c.d) ∧ W.cell? ⟨gB, 0, none⟩ = some (.int .i64 c.k) ∧ W.cell? ⟨gB, 1, none⟩ = some (.string (bs c.p.cells)) ∧ W.cell? ⟨gB, 2, none⟩ = some (.int .i64 c.p.side) ∧ W.cell? ⟨gB, 3, none⟩ = some (.int .i64 c.p.clock) ∧ W.cell? ⟨gB, 4, none⟩ = some (.int .i64 c.p.full) ∧ W.cell? ⟨gB, 5, none⟩ = some (.slice A2 q n2) ∧ W.cell? ⟨gB, 6, none⟩ = some (.int .i64 c.d) ∧ Two w gA gB c.k (bs c.p.cells) c.p.side c.p.clock c.p.full A1 A2 c.l q n1 n2 c.d a0 a1 a2 W) → Calls Tryz.prog 9 #[.agg #[.int .i64 c.k, .string (bs c.p.cells), .int .i64 c.p.side, .int .i64 c.p.clock, .int .i64 c.p.full, .slice A2 q n2, .int .i64 c.d]] W (Gives W (.string (bs t))) := fun h => by
    have := printLC h c rfl rfl rfl rfl rfl rfl rfl hq (by omega)
    rw [HT.out] at this
    exact this
  have hS : V2.drew.cell? ⟨gA, 0, none⟩ = some (.int .i64 c.k) ∧ V2.drew.cell? ⟨gA, 1, none⟩ = some (.string (bs c.p.cells)) ∧ V2.drew.cell? ⟨gA, 2, none⟩ = some (.int .i64 c.p.side) ∧ V2.drew.cell? ⟨gA, 3, none⟩ = some (.int .i64 c.p.clock) ∧ V2.drew.cell? ⟨gA, 4, none⟩ = some (.int .i64 c.p.full) ∧ V2.drew.cell? ⟨gA, 5, none⟩ = some (.slice A1 q n1) ∧ V2.drew.cell? ⟨gA, 6, none⟩ = some (.int .i64 c.d) ∧ V2.drew.cell? ⟨gB, 0, none⟩ = some (.int .i64 c.k) ∧ V2.drew.cell? ⟨gB, 1, none⟩ = some (.string (bs c.p.cells)) ∧ V2.drew.cell? ⟨gB, 2, none⟩ = some (.int .i64 c.p.side) ∧ V2.drew.cell? ⟨gB, 3, none⟩ = some (.int .i64 c.p.clock) ∧ V2.drew.cell? ⟨gB, 4, none⟩ = some (.int .i64 c.p.full) ∧ V2.drew.cell? ⟨gB, 5, none⟩ = some (.slice A2 q n2) ∧ V2.drew.cell? ⟨gB, 6, none⟩ = some (.int .i64 c.d) ∧ Two w gA gB c.k (bs c.p.cells) c.p.side c.p.clock c.p.full A1 A2 c.l q n1 n2 c.d a0 a1 a2 V2.drew := keepC HT2.out.c (Below.refl _ _).drew
  go_region_held3 (fun W => W.cell? ⟨gA, 0, none⟩ = some (.int .i64 c.k) ∧ W.cell? ⟨gA, 1, none⟩ = some (.string (bs c.p.cells)) ∧ W.cell? ⟨gA, 2, none⟩ = some (.int .i64 c.p.side) ∧ W.cell? ⟨gA, 3, none⟩ = some (.int .i64 c.p.clock) ∧ W.cell? ⟨gA, 4, none⟩ = some (.int .i64 c.p.full) ∧ W.cell? ⟨gA, 5, none⟩ = some (.slice A1 q n1) ∧ W.cell? ⟨gA, 6, none⟩ = some (.int .i64 c.d) ∧ W.cell? ⟨gB, 0, none⟩ = some (.int .i64 c.k) ∧ W.cell? ⟨gB, 1, none⟩ = some (.string (bs c.p.cells)) ∧ W.cell? ⟨gB, 2, none⟩ = some (.int .i64 c.p.side) ∧ W.cell? ⟨gB, 3, none⟩ = some (.int .i64 c.p.clock) ∧ W.cell? ⟨gB, 4, none⟩ = some (.int .i64 c.p.full) ∧ W.cell? ⟨gB, 5, none⟩ = some (.slice A2 q n2) ∧ W.cell? ⟨gB, 6, none⟩ = some (.int .i64 c.d) ∧ Two w gA gB c.k (bs c.p.cells) c.p.side c.p.clock c.p.full A1 A2 c.l q n1 n2 c.d a0 a1 a2 W)
    (first | exact hS | with_reducible assumption | exact keepC (by assumption) hb2)
    (first | (go_at_call 14; refine (told_is _ _ _ _ _ _ _ _ _ _).mono ?_; rintro e w4 ⟨rfl, hb2⟩) | (go_at_call 13; refine (sameC (by assumption) hq hq9).mono ?_; rintro e w4 ⟨rfl, hb2⟩) | (go_at_call 9; refine (PRT (by assumption)).mono ?_; rintro e w4 ⟨rfl, hb2⟩) | (go_at_call 8; refine (liveC (by assumption)).mono ?_; rintro e w4 ⟨rfl, hb2⟩))
  all_goals
    rename_i hH
    have hBF := hH.2.2.2.2.2.2.2.2.2.2.2.2.2.2.2.2.2.2.2.2
    clear hS hH
    go_wp2_with fail
    go_ret
    exact ⟨rfl, hBF⟩
theorem walk (s : ByteArray) {w : World} {a0 a1 a2 : Addr} (hE : Env w) (hR : Errs w a0 a1 a2) : Calls Tryz.prog 7 #[.string s] w (Gives w (.bool true)) := by
  by_cases h : 600 < s.size
  · exact large s hE hR h
  · have hl : s.data.toList.length ≤ 600 := by have : s.data.toList.length = s.size := rfl; omega
    rw [← bs_back s]
    cases hp : parseL s.data.toList with
    | error k => exact bad _ k hE hR hl hp
    | ok c => exact good _ c hE hR hl hp
end Go.Proofs.YtpogpjebhnoncabGreatDoor.lagain
